/- Balance, in numbers: the checks. -/
import Derived.Test.YtlhnhidoljfnnaaBaT
set_option linter.unusedVariables false
set_option linter.unusedSimpArgs false
namespace Go.Proofs.Ytlhnhidoljfnnaa
open Go.RowKit Fx Sh
/-- a number of a list -/
def nf (l : List (List D)) (i : Int) : Int := ((D.l l).cell i 0).int
theorem nf_def {l : List (List D)} {i : Int} : ((D.l l).cell i 0).int = nf l i := rfl
theorem nat_suc {k : Nat} : ((k : Int) + 1) = ((k + 1 : Nat) : Int) := rfl
def okR (l : List (List D)) (i : Int) : Prop := 1 ≤ nf l i ∧ nf l i ≤ 50000
open Classical in
noncomputable def bck (t : Int) (l : List (List D)) : Int := if 8 < l.length then 2 else if t < 0 ∨ 800000 < t then 1 else if ∀ i : Int, 0 ≤ i → i < l.length → okR l i then (if l.length = 0 ∧ t ≠ 0 then 9 else 0) else 1
theorem bck_zero {t : Int} {l : List (List D)} (h : bck t l = 0) : l.length ≤ 8 ∧ (0 ≤ t ∧ t ≤ 800000) ∧ ∀ i : Int, 0 ≤ i → i < l.length → okR l i := by
  unfold bck at h
  split at h
  · cases h
  · split at h
    · cases h
    · split at h
      · rename_i a b c
        exact ⟨by omega, by omega, c⟩
      · cases h
theorem bck_of {t : Int} {l : List (List D)} (h0 : 1 ≤ l.length) (h1 : l.length ≤ 8) (t0 : 0 ≤ t) (t1 : t ≤ 800000) (h2 : ∀ i : Int, 0 ≤ i → i < l.length → okR l i) : bck t l = 0 := by
  unfold bck
  rw [if_neg (by omega), if_neg (by omega), if_pos h2, if_neg (by omega)]
theorem bchk_gen {t : Int} {l : List (List D)} : ∃ o, baChk_T.run noM 30 [.i t, .l l] = some o ∧ o = [.i (bck t l)] := by
  refine run_to ?_
  unfold baChk_T
  refine To.ite (fun c => ?_) (fun c => ?_) <;> simp only [X.den, X.dens, X.denss, D.int_i, D.boo_b, D.str_s, D.rows_l, List.getD_cons_zero, List.getD_cons_succ, List.cons_append, List.nil_append, List.append_nil, List.length_cons, List.length_nil, decide_eq_true_eq, decide_eq_false_iff_not, Bool.not_eq_true', Bool.not_eq_false', Bool.and_eq_true, Bool.and_eq_false_iff, Bool.true_eq_false, Bool.false_eq_true, Bool.not_true, Bool.not_false, eq_self, D.len_l] at c
  · refine To.ret ?_
    simp only [X.den, X.dens, X.denss, D.int_i, D.boo_b, D.str_s, D.rows_l, List.getD_cons_zero, List.getD_cons_succ, List.cons_append, List.nil_append, List.append_nil, List.length_cons, List.length_nil, bck]
    rw [if_pos (by omega)]
  refine To.joinK (fun o => ∃ b, o = [.b b] ∧ (b = true ↔ (t < 0 ∨ 800000 < t))) ?_ ?_
  · refine To.ite (fun c => ?_) (fun c => ?_) <;> simp only [X.den, X.dens, X.denss, D.int_i, D.boo_b, D.str_s, D.rows_l, List.getD_cons_zero, List.getD_cons_succ, List.cons_append, List.nil_append, List.append_nil, List.length_cons, List.length_nil, decide_eq_true_eq, decide_eq_false_iff_not, Bool.not_eq_true', Bool.not_eq_false', Bool.and_eq_true, Bool.and_eq_false_iff, Bool.true_eq_false, Bool.false_eq_true, Bool.not_true, Bool.not_false, eq_self] at c
    · exact To.ret ⟨rfl, true, by simp only [X.den, X.dens, X.denss, D.int_i, D.boo_b, D.str_s, D.rows_l, List.getD_cons_zero, List.getD_cons_succ, List.cons_append, List.nil_append, List.append_nil, List.length_cons, List.length_nil], by simp [c]⟩
    · exact To.ret ⟨rfl, decide (800000 < t), by simp only [X.den, X.dens, X.denss, D.int_i, D.boo_b, D.str_s, D.rows_l, List.getD_cons_zero, List.getD_cons_succ, List.cons_append, List.nil_append, List.append_nil, List.length_cons, List.length_nil], by rw [decide_eq_true_eq]; omega⟩
  rintro o ρ2 ⟨b, rfl, hb⟩ eρ
  simp only [List.cons_append, List.nil_append] at eρ
  subst eρ
  refine To.ite (fun c2 => ?_) (fun c2 => ?_) <;> simp only [X.den, X.dens, X.denss, D.int_i, D.boo_b, D.str_s, D.rows_l, List.getD_cons_zero, List.getD_cons_succ, List.cons_append, List.nil_append, List.append_nil, List.length_cons, List.length_nil] at c2
  · refine To.ret ?_
    simp only [X.den, X.dens, X.denss, D.int_i, D.boo_b, D.str_s, D.rows_l, List.getD_cons_zero, List.getD_cons_succ, List.cons_append, List.nil_append, List.append_nil, List.length_cons, List.length_nil, bck]
    rw [if_neg (by omega), if_pos (hb.1 c2)]
  have ht : ¬ (t < 0 ∨ 800000 < t) := fun q => by rw [hb.2 q] at c2; cases c2
  refine To.loopK (fun m o => ∃ i, o = [.i i] ∧ 0 ≤ i ∧ i + m = l.length ∧ ∀ j : Int, 0 ≤ j → j < i → okR l j) (fun o => (o = [.i 0] ∧ bck t l = 1) ∨ (o = [.i 1] ∧ ∀ j : Int, 0 ≤ j → j < l.length → okR l j)) l.length (by omega) ?_ ?_ ?_
  · exact ⟨0, by simp only [X.den, X.dens, X.denss, D.int_i, D.boo_b, D.str_s, D.rows_l, List.getD_cons_zero, List.getD_cons_succ, List.cons_append, List.nil_append, List.append_nil, List.length_cons, List.length_nil], by omega, by omega, by intro j; omega⟩
  · rintro m o ρ2 ⟨i, rfl, i0, i1, hj⟩ eρ
    simp only [List.cons_append, List.nil_append] at eρ
    subst eρ
    refine To.ite (fun c => ?_) (fun c => ?_) <;> simp only [X.den, X.dens, X.denss, D.int_i, D.boo_b, D.str_s, D.rows_l, List.getD_cons_zero, List.getD_cons_succ, List.cons_append, List.nil_append, List.append_nil, List.length_cons, List.length_nil, decide_eq_true_eq, decide_eq_false_iff_not, Bool.not_eq_true', Bool.not_eq_false', Bool.and_eq_true, Bool.and_eq_false_iff, Bool.true_eq_false, Bool.false_eq_true, Bool.not_true, Bool.not_false, eq_self, D.len_l] at c
    · refine To.need (by simp only [X.den, X.dens, X.denss, D.int_i, D.boo_b, D.str_s, D.rows_l, List.getD_cons_zero, List.getD_cons_succ, List.cons_append, List.nil_append, List.append_nil, List.length_cons, List.length_nil, decide_eq_true_eq, decide_eq_false_iff_not, Bool.not_eq_true', Bool.not_eq_false', Bool.and_eq_true, Bool.and_eq_false_iff, Bool.true_eq_false, Bool.false_eq_true, Bool.not_true, Bool.not_false, eq_self, D.len_l]; omega) ?_
      refine To.joinK (fun o => ∃ b, o = [.b b] ∧ (b = true ↔ ¬ okR l i)) ?_ ?_
      · refine To.ite (fun c => ?_) (fun c => ?_) <;> simp only [X.den, X.dens, X.denss, D.int_i, D.boo_b, D.str_s, D.rows_l, List.getD_cons_zero, List.getD_cons_succ, List.cons_append, List.nil_append, List.append_nil, List.length_cons, List.length_nil, decide_eq_true_eq, decide_eq_false_iff_not, Bool.not_eq_true', Bool.not_eq_false', Bool.and_eq_true, Bool.and_eq_false_iff, Bool.true_eq_false, Bool.false_eq_true, Bool.not_true, Bool.not_false, eq_self, nf_def] at c
        · exact To.ret ⟨rfl, true, by simp only [X.den, X.dens, X.denss, D.int_i, D.boo_b, D.str_s, D.rows_l, List.getD_cons_zero, List.getD_cons_succ, List.cons_append, List.nil_append, List.append_nil, List.length_cons, List.length_nil], by simp only [true_iff, okR]; omega⟩
        · exact To.ret ⟨rfl, decide (50000 < nf l i), by simp only [X.den, X.dens, X.denss, D.int_i, D.boo_b, D.str_s, D.rows_l, List.getD_cons_zero, List.getD_cons_succ, List.cons_append, List.nil_append, List.append_nil, List.length_cons, List.length_nil, nf_def], by rw [decide_eq_true_eq]; unfold okR; omega⟩
      rintro o ρ2 ⟨u, rfl, hu⟩ eρ
      simp only [List.cons_append, List.nil_append] at eρ
      subst eρ
      refine To.ite (fun c3 => ?_) (fun c3 => ?_) <;> simp only [X.den, X.dens, X.denss, D.int_i, D.boo_b, D.str_s, D.rows_l, List.getD_cons_zero, List.getD_cons_succ, List.cons_append, List.nil_append, List.append_nil, List.length_cons, List.length_nil] at c3
      · refine To.ret (.inr ⟨rfl, .inl ⟨by simp only [X.den, X.dens, X.denss, D.int_i, D.boo_b, D.str_s, D.rows_l, List.getD_cons_zero, List.getD_cons_succ, List.cons_append, List.nil_append, List.append_nil, List.length_cons, List.length_nil], ?_⟩⟩)
        unfold bck
        rw [if_neg (by omega), if_neg ht, if_neg (fun h => hu.1 c3 (h i i0 (by omega)))]
      · refine To.ret (.inl ⟨rfl, m - 1, by omega, ?_⟩)
        simp (disch := omega) only [X.den, X.dens, X.denss, D.int_i, D.boo_b, D.str_s, D.rows_l, List.getD_cons_zero, List.getD_cons_succ, List.cons_append, List.nil_append, List.append_nil, List.length_cons, List.length_nil, wr64]
        refine ⟨_, rfl, by omega, by omega, fun j j0 j1 => ?_⟩
        by_cases e : j = i
        · subst e
          exact Classical.byContradiction fun q => by rw [hu.2 q] at c3; cases c3
        · exact hj j j0 (by omega)
    · exact To.ret (.inr ⟨rfl, .inr ⟨by simp only [X.den, X.dens, X.denss, D.int_i, D.boo_b, D.str_s, D.rows_l, List.getD_cons_zero, List.getD_cons_succ, List.cons_append, List.nil_append, List.append_nil, List.length_cons, List.length_nil], fun j j0 j1 => hj j j0 (by omega)⟩⟩)
  · rintro o ρ2 (⟨rfl, h⟩ | ⟨rfl, h⟩) eρ
    · simp only [List.cons_append, List.nil_append] at eρ
      subst eρ
      refine ⟨rfl, To.yes rfl (To.ret ?_)⟩
      simp only [X.den, X.dens, X.denss, D.int_i, D.boo_b, D.str_s, D.rows_l, List.getD_cons_zero, List.getD_cons_succ, List.cons_append, List.nil_append, List.append_nil, List.length_cons, List.length_nil, h]
    · simp only [List.cons_append, List.nil_append] at eρ
      subst eρ
      refine ⟨rfl, To.no rfl ?_⟩
      refine To.joinK (fun o => ∃ b, o = [.b b] ∧ (b = true ↔ (l.length = 0 ∧ t ≠ 0))) ?_ ?_
      · refine To.ite (fun c => ?_) (fun c => ?_) <;> simp only [X.den, X.dens, X.denss, D.int_i, D.boo_b, D.str_s, D.rows_l, List.getD_cons_zero, List.getD_cons_succ, List.cons_append, List.nil_append, List.append_nil, List.length_cons, List.length_nil, decide_eq_true_eq, decide_eq_false_iff_not, Bool.not_eq_true', Bool.not_eq_false', Bool.and_eq_true, Bool.and_eq_false_iff, Bool.true_eq_false, Bool.false_eq_true, Bool.not_true, Bool.not_false, eq_self, D.len_l] at c
        · refine To.ret ⟨rfl, !decide (t = 0), by simp only [X.den, X.dens, X.denss, D.int_i, D.boo_b, D.str_s, D.rows_l, List.getD_cons_zero, List.getD_cons_succ, List.cons_append, List.nil_append, List.append_nil, List.length_cons, List.length_nil], ?_⟩
          have : l.length = 0 := by omega
          simp [this]
        · refine To.ret ⟨rfl, false, by simp only [X.den, X.dens, X.denss, D.int_i, D.boo_b, D.str_s, D.rows_l, List.getD_cons_zero, List.getD_cons_succ, List.cons_append, List.nil_append, List.append_nil, List.length_cons, List.length_nil], ?_⟩
          have : ¬ l.length = 0 := by omega
          simp [this]
      rintro o ρ2 ⟨u, rfl, hu⟩ eρ
      simp only [List.cons_append, List.nil_append] at eρ
      subst eρ
      refine To.ite (fun c3 => ?_) (fun c3 => ?_) <;> simp only [X.den, X.dens, X.denss, D.int_i, D.boo_b, D.str_s, D.rows_l, List.getD_cons_zero, List.getD_cons_succ, List.cons_append, List.nil_append, List.append_nil, List.length_cons, List.length_nil] at c3
      · refine To.ret ?_
        simp only [X.den, X.dens, X.denss, D.int_i, D.boo_b, D.str_s, D.rows_l, List.getD_cons_zero, List.getD_cons_succ, List.cons_append, List.nil_append, List.append_nil, List.length_cons, List.length_nil, bck]
        rw [if_neg (by omega), if_neg ht, if_pos h, if_pos (hu.1 c3)]
      · refine To.ret ?_
        simp only [X.den, X.dens, X.denss, D.int_i, D.boo_b, D.str_s, D.rows_l, List.getD_cons_zero, List.getD_cons_succ, List.cons_append, List.nil_append, List.append_nil, List.length_cons, List.length_nil, bck]
        rw [if_neg (by omega), if_neg ht, if_pos h, if_neg (fun q => by rw [hu.2 q] at c3; cases c3)]
theorem baChk_ok : ConOk Try.prog baChk_K (baChk_T.run noM 30) := con_run follows no_cons baChk_t rfl 30
theorem rsum_rng {l : List (List D)} (hv : ∀ i : Int, 0 ≤ i → i < l.length → okR l i) (k : Nat) (hk : k ≤ l.length) : 1 * (k : Int) ≤ sumf (nf l) k ∧ sumf (nf l) k ≤ 50000 * k :=
  sumf_bound fun i a b => hv i a (by omega)
/-- a proportion, rounded down -/
def qF (t : Int) (l : List (List D)) (i : Int) : Int := t * nf l i / sumf (nf l) l.length
def rF (t : Int) (l : List (List D)) (i : Int) : Int := t * nf l i % sumf (nf l) l.length
theorem prod_rng {t r : Int} (t0 : 0 ≤ t) (t1 : t ≤ 800000) (r0 : 1 ≤ r) (r1 : r ≤ 50000) : 0 ≤ t * r ∧ t * r ≤ 40000000000 := by
  have a := Int.mul_nonneg t0 (show 0 ≤ r by omega)
  have b := Int.mul_le_mul t1 r1 (by omega) (by omega)
  omega
theorem qr_rng {t : Int} {l : List (List D)} {i : Int} (t0 : 0 ≤ t) (t1 : t ≤ 800000) (h : okR l i) (hw : 1 ≤ sumf (nf l) l.length) : (0 ≤ qF t l i ∧ qF t l i ≤ 40000000000) ∧ (0 ≤ rF t l i ∧ rF t l i < sumf (nf l) l.length) ∧ (t * nf l i).tdiv (sumf (nf l) l.length) = qF t l i ∧ (t * nf l i).tmod (sumf (nf l) l.length) = rF t l i := by
  have p := prod_rng t0 t1 h.1 h.2
  refine ⟨⟨Int.ediv_nonneg p.1 (by omega), ?_⟩, ⟨Int.emod_nonneg _ (by omega), Int.emod_lt_of_pos _ (by omega)⟩, Int.tdiv_eq_ediv_of_nonneg p.1, Int.tmod_eq_emod_of_nonneg p.1⟩
  have := Int.ediv_le_self (sumf (nf l) l.length) p.1
  unfold qF
  omega
/-- what Check says -/
def GoodR (t : Int) (l x : List (List D)) (i : Int) : Prop := nf x i = qF t l i ∨ (nf x i = qF t l i + 1 ∧ rF t l i ≠ 0)
def bcM : Models := Models.on baChk_K.f (baChk_T.run noM 30) noM
/-- for numbers that are not too great, as many as ratings -/
theorem check_to {t : Int} {l x : List (List D)} (h : bck t l = 0) (h0 : 1 ≤ l.length) (hx : x.length = l.length) (hb : ∀ i : Int, 0 ≤ i → i < l.length → -1000000000000 ≤ nf x i ∧ nf x i ≤ 1000000000000) :
    ∃ o, baCheck_T.run bcM 30 [.i t, .l l, .l x] = some o ∧ ∃ b, o = [.b b] ∧ (b = true ↔ ((∀ i : Int, 0 ≤ i → i < l.length → GoodR t l x i) ∧ sumf (nf x) l.length = t)) := by
  obtain ⟨h8, ⟨t0, t1⟩, hv⟩ := bck_zero h
  have hw := rsum_rng hv l.length (Nat.le_refl _)
  refine run_to ?_
  unfold baCheck_T
  refine To.joinK (fun o => o = [.b false]) ?_ ?_
  · refine To.viaK (by (try simp (disch := omega) only [X.den, X.dens, X.denss, D.int_i, D.boo_b, D.str_s, D.rows_l, List.getD_cons_zero, List.getD_cons_succ, List.cons_append, List.nil_append, List.append_nil, List.length_cons, List.length_nil, decide_eq_true_eq, decide_eq_false_iff_not, Bool.not_eq_true', Bool.not_eq_false', Bool.and_eq_true, Bool.and_eq_false_iff, Bool.true_eq_false, Bool.false_eq_true, Bool.not_true, Bool.not_false, eq_self, D.len_l, wr64, not_true_eq_false, not_false_eq_true]); exact bchk_gen) ?_
    rintro _ ρ2 rfl eρ
    refine ⟨rfl, ?_⟩
    simp only [List.cons_append, List.nil_append] at eρ
    subst eρ
    refine To.yes (by simp only [X.den, X.dens, X.denss, D.int_i, D.boo_b, D.str_s, D.rows_l, List.getD_cons_zero, List.getD_cons_succ, List.cons_append, List.nil_append, List.append_nil, List.length_cons, List.length_nil, decide_eq_true_eq, decide_eq_false_iff_not, Bool.not_eq_true', Bool.not_eq_false', Bool.and_eq_true, Bool.and_eq_false_iff, Bool.true_eq_false, Bool.false_eq_true, Bool.not_true, Bool.not_false, eq_self]; exact h) (To.ret ⟨rfl, ?_⟩)
    simp only [X.den, X.dens, X.denss, D.int_i, D.boo_b, D.str_s, D.rows_l, List.getD_cons_zero, List.getD_cons_succ, List.cons_append, List.nil_append, List.append_nil, List.length_cons, List.length_nil, D.len_l, hx, eq_self, decide_true, Bool.not_true]
  rintro o ρ2 rfl eρ
  simp only [List.cons_append, List.nil_append] at eρ
  subst eρ
  refine To.no rfl ?_
  refine To.loopK (fun m o => ∃ k : Nat, o = [.i (sumf (nf l) k), .i k] ∧ k + m = l.length) (fun o => o = [.i (sumf (nf l) l.length)]) l.length (by omega) ?_ ?_ ?_
  · exact ⟨0, rfl, by omega⟩
  · rintro m o ρ2 ⟨k, rfl, hk⟩ eρ
    simp only [List.cons_append, List.nil_append] at eρ
    subst eρ
    refine To.ite (fun c => ?_) (fun c => ?_) <;> simp only [X.den, X.dens, X.denss, D.int_i, D.boo_b, D.str_s, D.rows_l, List.getD_cons_zero, List.getD_cons_succ, List.cons_append, List.nil_append, List.append_nil, List.length_cons, List.length_nil, decide_eq_true_eq, decide_eq_false_iff_not, Bool.not_eq_true', Bool.not_eq_false', Bool.and_eq_true, Bool.and_eq_false_iff, Bool.true_eq_false, Bool.false_eq_true, Bool.not_true, Bool.not_false, eq_self, D.len_l] at c
    · refine To.need (by simp only [X.den, X.dens, X.denss, D.int_i, D.boo_b, D.str_s, D.rows_l, List.getD_cons_zero, List.getD_cons_succ, List.cons_append, List.nil_append, List.append_nil, List.length_cons, List.length_nil, decide_eq_true_eq, decide_eq_false_iff_not, Bool.not_eq_true', Bool.not_eq_false', Bool.and_eq_true, Bool.and_eq_false_iff, Bool.true_eq_false, Bool.false_eq_true, Bool.not_true, Bool.not_false, eq_self, D.len_l]; omega) ?_
      have s1 := rsum_rng hv k (by omega)
      have s2 := rsum_rng hv (k + 1) (by omega)
      simp only [sumf] at s2
      refine To.ret (.inl ⟨rfl, m - 1, by omega, k + 1, ?_, by omega⟩)
      simp (disch := omega) only [X.den, X.dens, X.denss, D.int_i, D.boo_b, D.str_s, D.rows_l, List.getD_cons_zero, List.getD_cons_succ, List.cons_append, List.nil_append, List.append_nil, List.length_cons, List.length_nil, wr64, nf_def, nat_suc, sumf]
    · obtain rfl : k = l.length := by omega
      exact To.ret (.inr ⟨rfl, by simp only [X.den, X.dens, X.denss, D.int_i, D.boo_b, D.str_s, D.rows_l, List.getD_cons_zero, List.getD_cons_succ, List.cons_append, List.nil_append, List.append_nil, List.length_cons, List.length_nil]⟩)
  rintro o ρ2 rfl eρ
  simp only [List.cons_append, List.nil_append] at eρ
  subst eρ
  refine ⟨rfl, ?_⟩
  refine To.loopK (fun m o => ∃ k : Nat, o = [.i (t - sumf (nf x) k), .i k] ∧ k + m = l.length ∧ ∀ i : Int, 0 ≤ i → i < k → GoodR t l x i) (fun o => ∃ u : D, (o = [.i 0, u] ∧ ¬ ∀ i : Int, 0 ≤ i → i < l.length → GoodR t l x i) ∨ (o = [.i 1, .i (t - sumf (nf x) l.length)] ∧ ∀ i : Int, 0 ≤ i → i < l.length → GoodR t l x i)) l.length (by omega) ?_ ?_ ?_
  · refine ⟨0, ?_, by omega, by intro i; omega⟩
    simp only [X.den, X.dens, X.denss, D.int_i, D.boo_b, D.str_s, D.rows_l, List.getD_cons_zero, List.getD_cons_succ, List.cons_append, List.nil_append, List.append_nil, List.length_cons, List.length_nil, sumf, Int.sub_zero]
    rfl
  · rintro m o ρ2 ⟨k, rfl, hk, hg⟩ eρ
    simp only [List.cons_append, List.nil_append] at eρ
    subst eρ
    refine To.ite (fun c => ?_) (fun c => ?_) <;> simp only [X.den, X.dens, X.denss, D.int_i, D.boo_b, D.str_s, D.rows_l, List.getD_cons_zero, List.getD_cons_succ, List.cons_append, List.nil_append, List.append_nil, List.length_cons, List.length_nil, decide_eq_true_eq, decide_eq_false_iff_not, Bool.not_eq_true', Bool.not_eq_false', Bool.and_eq_true, Bool.and_eq_false_iff, Bool.true_eq_false, Bool.false_eq_true, Bool.not_true, Bool.not_false, eq_self, D.len_l] at c
    · refine To.need (by simp only [X.den, X.dens, X.denss, D.int_i, D.boo_b, D.str_s, D.rows_l, List.getD_cons_zero, List.getD_cons_succ, List.cons_append, List.nil_append, List.append_nil, List.length_cons, List.length_nil, decide_eq_true_eq, decide_eq_false_iff_not, Bool.not_eq_true', Bool.not_eq_false', Bool.and_eq_true, Bool.and_eq_false_iff, Bool.true_eq_false, Bool.false_eq_true, Bool.not_true, Bool.not_false, eq_self, D.len_l]; omega) ?_
      refine To.need (by simp only [X.den, X.dens, X.denss, D.int_i, D.boo_b, D.str_s, D.rows_l, List.getD_cons_zero, List.getD_cons_succ, List.cons_append, List.nil_append, List.append_nil, List.length_cons, List.length_nil, decide_eq_true_eq, decide_eq_false_iff_not, Bool.not_eq_true', Bool.not_eq_false', Bool.and_eq_true, Bool.and_eq_false_iff, Bool.true_eq_false, Bool.false_eq_true, Bool.not_true, Bool.not_false, eq_self]; omega) ?_
      have ok := hv k (by omega) (by omega)
      have q := qr_rng t0 t1 ok (by omega)
      have p := prod_rng t0 t1 ok.1 ok.2
      have bx := hb k (by omega) (by omega)
      have sx := fun (j : Nat) (hj : j ≤ l.length) => sumf_bound (f := nf x) (a := -1000000000000) (b := 1000000000000) (n := j) fun i a b => hb i a (by omega)
      refine To.joinK (fun o => ∃ b, o = [.b b] ∧ (b = true ↔ ¬ GoodR t l x k)) ?_ ?_
      · refine To.need (by simp only [X.den, X.dens, X.denss, D.int_i, D.boo_b, D.str_s, D.rows_l, List.getD_cons_zero, List.getD_cons_succ, List.cons_append, List.nil_append, List.append_nil, List.length_cons, List.length_nil, decide_eq_true_eq, decide_eq_false_iff_not, Bool.not_eq_true', Bool.not_eq_false', Bool.and_eq_true, Bool.and_eq_false_iff, Bool.true_eq_false, Bool.false_eq_true, Bool.not_true, Bool.not_false, eq_self, D.len_l]; omega) ?_
        refine To.ite (fun c => ?_) (fun c => ?_) <;> simp (disch := omega) only [X.den, X.dens, X.denss, D.int_i, D.boo_b, D.str_s, D.rows_l, List.getD_cons_zero, List.getD_cons_succ, List.cons_append, List.nil_append, List.append_nil, List.length_cons, List.length_nil, decide_eq_true_eq, decide_eq_false_iff_not, Bool.not_eq_true', Bool.not_eq_false', Bool.and_eq_true, Bool.and_eq_false_iff, Bool.true_eq_false, Bool.false_eq_true, Bool.not_true, Bool.not_false, eq_self, nf_def, wr64, q.2.2.1] at c
        · exact To.ret ⟨rfl, false, by simp only [X.den, X.dens, X.denss, D.int_i, D.boo_b, D.str_s, D.rows_l, List.getD_cons_zero, List.getD_cons_succ, List.cons_append, List.nil_append, List.append_nil, List.length_cons, List.length_nil], by simp only [GoodR, c, false_iff, true_or, eq_self, not_true_eq_false, not_false_eq_true, iff_false, Bool.false_eq_true]⟩
        · refine To.ite (fun c2 => ?_) (fun c2 => ?_) <;> simp (disch := omega) only [X.den, X.dens, X.denss, D.int_i, D.boo_b, D.str_s, D.rows_l, List.getD_cons_zero, List.getD_cons_succ, List.cons_append, List.nil_append, List.append_nil, List.length_cons, List.length_nil, decide_eq_true_eq, decide_eq_false_iff_not, Bool.not_eq_true', Bool.not_eq_false', Bool.and_eq_true, Bool.and_eq_false_iff, Bool.true_eq_false, Bool.false_eq_true, Bool.not_true, Bool.not_false, eq_self, nf_def, wr64, q.2.2.1] at c2
          · refine To.ret ⟨rfl, decide (rF t l k = 0), ?_, ?_⟩
            · simp (disch := omega) only [X.den, X.dens, X.denss, D.int_i, D.boo_b, D.str_s, D.rows_l, List.getD_cons_zero, List.getD_cons_succ, List.cons_append, List.nil_append, List.append_nil, List.length_cons, List.length_nil, nf_def, wr64, q.2.2.2]
            · rw [decide_eq_true_eq]
              unfold GoodR
              omega
          · exact To.ret ⟨rfl, true, by simp only [X.den, X.dens, X.denss, D.int_i, D.boo_b, D.str_s, D.rows_l, List.getD_cons_zero, List.getD_cons_succ, List.cons_append, List.nil_append, List.append_nil, List.length_cons, List.length_nil], by simp only [true_iff, GoodR]; omega⟩
      rintro o ρ2 ⟨u, rfl, hu⟩ eρ
      simp only [List.cons_append, List.nil_append] at eρ
      subst eρ
      refine To.ite (fun c3 => ?_) (fun c3 => ?_) <;> simp only [X.den, X.dens, X.denss, D.int_i, D.boo_b, D.str_s, D.rows_l, List.getD_cons_zero, List.getD_cons_succ, List.cons_append, List.nil_append, List.append_nil, List.length_cons, List.length_nil] at c3
      · exact To.ret (.inr ⟨rfl, _, .inl ⟨by simp only [X.den, X.dens, X.denss, D.int_i, D.boo_b, D.str_s, D.rows_l, List.getD_cons_zero, List.getD_cons_succ, List.cons_append, List.nil_append, List.append_nil, List.length_cons, List.length_nil]; rfl, fun q => hu.1 c3 (q k (by omega) (by omega))⟩⟩)
      · refine To.need (by simp only [X.den, X.dens, X.denss, D.int_i, D.boo_b, D.str_s, D.rows_l, List.getD_cons_zero, List.getD_cons_succ, List.cons_append, List.nil_append, List.append_nil, List.length_cons, List.length_nil, decide_eq_true_eq, decide_eq_false_iff_not, Bool.not_eq_true', Bool.not_eq_false', Bool.and_eq_true, Bool.and_eq_false_iff, Bool.true_eq_false, Bool.false_eq_true, Bool.not_true, Bool.not_false, eq_self, D.len_l]; omega) ?_
        have s1 := sx k (by omega)
        have s2 := sx (k + 1) (by omega)
        simp only [sumf] at s2
        have es : t - sumf (nf x) k - nf x k = t - (sumf (nf x) k + nf x k) := by omega
        refine To.ret (.inl ⟨rfl, m - 1, by omega, k + 1, ?_, by omega, fun i i0 i1 => ?_⟩)
        · simp (disch := omega) only [X.den, X.dens, X.denss, D.int_i, D.boo_b, D.str_s, D.rows_l, List.getD_cons_zero, List.getD_cons_succ, List.cons_append, List.nil_append, List.append_nil, List.length_cons, List.length_nil, wr64, nf_def, nat_suc, sumf, es]
        · by_cases e : i = k
          · subst e
            exact Classical.byContradiction fun q => by rw [hu.2 q] at c3; cases c3
          · exact hg i i0 (by omega)
    · obtain rfl : k = l.length := by omega
      exact To.ret (.inr ⟨rfl, .i 0, .inr ⟨by simp only [X.den, X.dens, X.denss, D.int_i, D.boo_b, D.str_s, D.rows_l, List.getD_cons_zero, List.getD_cons_succ, List.cons_append, List.nil_append, List.append_nil, List.length_cons, List.length_nil], hg⟩⟩)
  rintro o ρ2 ⟨u, (⟨rfl, hn⟩ | ⟨rfl, hg⟩)⟩ eρ
  · simp only [List.cons_append, List.nil_append] at eρ
    subst eρ
    refine ⟨rfl, To.yes rfl (To.ret ⟨false, by simp only [X.den, X.dens, X.denss, D.int_i, D.boo_b, D.str_s, D.rows_l, List.getD_cons_zero, List.getD_cons_succ, List.cons_append, List.nil_append, List.append_nil, List.length_cons, List.length_nil], ?_⟩)⟩
    constructor
    · intro q; cases q
    · intro q; exact absurd q.1 hn
  · simp only [List.cons_append, List.nil_append] at eρ
    subst eρ
    refine ⟨rfl, To.no rfl (To.ret ⟨decide (t - sumf (nf x) l.length = 0), by simp only [X.den, X.dens, X.denss, D.int_i, D.boo_b, D.str_s, D.rows_l, List.getD_cons_zero, List.getD_cons_succ, List.cons_append, List.nil_append, List.append_nil, List.length_cons, List.length_nil], ?_⟩)⟩
    rw [decide_eq_true_eq]
    constructor
    · intro q; exact ⟨hg, by omega⟩
    · intro q; have := q.2; omega
theorem baCheck_ok : ConOk Try.prog baCheck_K (baCheck_T.run bcM 30) := con_run follows (one_con (baChk_ok.to _) no_cons) baCheck_t rfl 30
end Go.Proofs.Ytlhnhidoljfnnaa
