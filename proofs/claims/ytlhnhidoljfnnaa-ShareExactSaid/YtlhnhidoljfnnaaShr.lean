/- Shares, in numbers. -/
import Derived.Test.YtlhnhidoljfnnaaShrT
set_option linter.unusedVariables false
set_option linter.unusedSimpArgs false
namespace Go.Proofs.Ytlhnhidoljfnnaa
open Go.RowKit Fx Sh
/-- a number of a row -/
def ce (l : List (List D)) (c : Nat) (i : Int) : Int := ((D.l l).cell i c).int
theorem ce_def {l : List (List D)} {c : Nat} {i : Int} : ((D.l l).cell i c).int = ce l c i := rfl
def okS (l : List (List D)) (i : Int) : Prop := -5000 ≤ ce l 0 i ∧ ce l 0 i ≤ ce l 1 i ∧ ce l 1 i ≤ 5000 ∧ 1 ≤ ce l 2 i ∧ ce l 2 i ≤ 100
open Classical in
noncomputable def vd (l : List (List D)) : Int := if 8 < l.length then 2 else if ∀ i : Int, 0 ≤ i → i < l.length → okS l i then 0 else 1
theorem vd_zero {l : List (List D)} (h : vd l = 0) : l.length ≤ 8 ∧ ∀ i : Int, 0 ≤ i → i < l.length → okS l i := by
  unfold vd at h
  split at h
  · cases h
  · split at h
    · rename_i a b; exact ⟨by omega, b⟩
    · cases h
theorem vd_of {l : List (List D)} (h1 : l.length ≤ 8) (h2 : ∀ i : Int, 0 ≤ i → i < l.length → okS l i) : vd l = 0 := by
  unfold vd
  rw [if_neg (by omega), if_pos h2]
theorem valid_gen {l : List (List D)} : ∃ o, shValid_T.run noM 30 [.l l] = some o ∧ o = [.i (vd l)] := by
  refine run_to ?_
  unfold shValid_T
  refine To.ite (fun c => ?_) (fun c => ?_) <;> simp only [X.den, X.dens, X.denss, D.int_i, D.boo_b, D.str_s, D.rows_l, List.getD_cons_zero, List.getD_cons_succ, List.cons_append, List.nil_append, List.append_nil, List.length_cons, List.length_nil, decide_eq_true_eq, decide_eq_false_iff_not, Bool.not_eq_true', Bool.not_eq_false', Bool.and_eq_true, Bool.and_eq_false_iff, Bool.true_eq_false, Bool.false_eq_true, Bool.not_true, Bool.not_false, eq_self, D.len_l] at c
  · refine To.ret ?_
    simp only [X.den, X.dens, X.denss, D.int_i, D.boo_b, D.str_s, D.rows_l, List.getD_cons_zero, List.getD_cons_succ, List.cons_append, List.nil_append, List.append_nil, List.length_cons, List.length_nil]
    unfold vd
    rw [if_pos (by omega)]
  refine To.loopK (fun m o => ∃ i, o = [.i i] ∧ 0 ≤ i ∧ i + m = l.length ∧ ∀ j : Int, 0 ≤ j → j < i → okS l j) (fun o => (∃ a b d, o = [.i 0, a, b, d] ∧ vd l = 1) ∨ (∃ a b d, o = [.i 1, a, b, d] ∧ vd l = 0)) l.length (by omega) ?_ ?_ ?_
  · exact ⟨0, by simp only [X.den, X.dens, X.denss, D.int_i, D.boo_b, D.str_s, D.rows_l, List.getD_cons_zero, List.getD_cons_succ, List.cons_append, List.nil_append, List.append_nil, List.length_cons, List.length_nil], by omega, by omega, by intro j; omega⟩
  · rintro m o ρ2 ⟨i, rfl, i0, i1, hj⟩ eρ
    simp only [List.cons_append, List.nil_append] at eρ
    subst eρ
    refine To.ite (fun c => ?_) (fun c => ?_) <;> simp only [X.den, X.dens, X.denss, D.int_i, D.boo_b, D.str_s, D.rows_l, List.getD_cons_zero, List.getD_cons_succ, List.cons_append, List.nil_append, List.append_nil, List.length_cons, List.length_nil, decide_eq_true_eq, decide_eq_false_iff_not, Bool.not_eq_true', Bool.not_eq_false', Bool.and_eq_true, Bool.and_eq_false_iff, Bool.true_eq_false, Bool.false_eq_true, Bool.not_true, Bool.not_false, eq_self, D.len_l] at c
    · refine To.need (by simp only [X.den, X.dens, X.denss, D.int_i, D.boo_b, D.str_s, D.rows_l, List.getD_cons_zero, List.getD_cons_succ, List.cons_append, List.nil_append, List.append_nil, List.length_cons, List.length_nil, decide_eq_true_eq, decide_eq_false_iff_not, Bool.not_eq_true', Bool.not_eq_false', Bool.and_eq_true, Bool.and_eq_false_iff, Bool.true_eq_false, Bool.false_eq_true, Bool.not_true, Bool.not_false, eq_self, D.len_l]; omega) ?_
      refine To.joinK (fun o => ∃ a1 a2 a3 a4 a5 a6 t, o = [a1, a2, a3, a4, a5, a6, .b t] ∧ (t = true ↔ ¬ okS l i)) ?_ ?_
      · (repeat' (refine To.ite (fun c => ?_) (fun c => ?_) <;> simp only [X.den, X.dens, X.denss, D.int_i, D.boo_b, D.str_s, D.rows_l, List.getD_cons_zero, List.getD_cons_succ, List.cons_append, List.nil_append, List.append_nil, List.length_cons, List.length_nil, decide_eq_true_eq, decide_eq_false_iff_not, Bool.not_eq_true', Bool.not_eq_false', Bool.and_eq_true, Bool.and_eq_false_iff, Bool.true_eq_false, Bool.false_eq_true, Bool.not_true, Bool.not_false, eq_self, D.len_l, ce_def] at c))
        all_goals (refine To.ret ⟨rfl, _, _, _, _, _, _, _, rfl, ?_⟩; simp only [X.den, X.dens, X.denss, D.int_i, D.boo_b, D.str_s, D.rows_l, List.getD_cons_zero, List.getD_cons_succ, List.cons_append, List.nil_append, List.append_nil, List.length_cons, List.length_nil, decide_eq_true_eq, decide_eq_false_iff_not, Bool.not_eq_true', Bool.not_eq_false', Bool.and_eq_true, Bool.and_eq_false_iff, Bool.true_eq_false, Bool.false_eq_true, Bool.not_true, Bool.not_false, eq_self, ce_def, okS, true_iff]; omega)
      rintro o ρ2 ⟨a1, a2, a3, a4, a5, a6, t, rfl, ht⟩ eρ
      simp only [List.cons_append, List.nil_append] at eρ
      subst eρ
      refine To.ite (fun ct => ?_) (fun ct => ?_) <;> simp only [X.den, X.dens, X.denss, D.int_i, D.boo_b, D.str_s, D.rows_l, List.getD_cons_zero, List.getD_cons_succ, List.cons_append, List.nil_append, List.append_nil, List.length_cons, List.length_nil] at ct
      · refine To.ret (.inr ⟨rfl, .inl ⟨_, _, _, rfl, ?_⟩⟩)
        unfold vd
        rw [if_neg (by omega), if_neg (fun h => ht.1 ct (h i i0 (by omega)))]
      · refine To.ret (.inl ⟨rfl, m - 1, by omega, ?_⟩)
        simp (disch := omega) only [X.den, X.dens, X.denss, D.int_i, D.boo_b, D.str_s, D.rows_l, List.getD_cons_zero, List.getD_cons_succ, List.cons_append, List.nil_append, List.append_nil, List.length_cons, List.length_nil, wr64]
        refine ⟨_, rfl, by omega, by omega, fun j j0 j1 => ?_⟩
        by_cases e : j = i
        · subst e
          exact Classical.byContradiction fun q => by rw [ht.2 q] at ct; cases ct
        · exact hj j j0 (by omega)
    · refine To.ret (.inr ⟨rfl, .inr ⟨_, _, _, rfl, vd_of (by omega) fun j j0 j1 => hj j j0 (by omega)⟩⟩)
  · rintro o ρ2 (⟨a, b, d, rfl, h⟩ | ⟨a, b, d, rfl, h⟩) eρ
    · simp only [List.cons_append, List.nil_append] at eρ
      subst eρ
      refine ⟨rfl, To.yes rfl (To.ret ?_)⟩
      simp only [X.den, X.dens, X.denss, D.int_i, D.boo_b, D.str_s, D.rows_l, List.getD_cons_zero, List.getD_cons_succ, List.cons_append, List.nil_append, List.append_nil, List.length_cons, List.length_nil, h]
    · simp only [List.cons_append, List.nil_append] at eρ
      subst eρ
      refine ⟨rfl, To.no rfl (To.ret ?_)⟩
      simp only [X.den, X.dens, X.denss, D.int_i, D.boo_b, D.str_s, D.rows_l, List.getD_cons_zero, List.getD_cons_succ, List.cons_append, List.nil_append, List.append_nil, List.length_cons, List.length_nil, h]
theorem shValid_ok : ConOk Try.prog shValid_K (shValid_T.run noM 30) := con_run follows no_cons shValid_t rfl 30
/-- a round over a list that goes on -/
theorem nat_succ {k : Nat} : ((k : Int) + 1) = ((k + 1 : Nat) : Int) := rfl
def reM : Models := Models.on shValid_K.f (shValid_T.run noM 30) noM
open Classical in
noncomputable def reS (l : List (List D)) (c : Nat) : Int := if vd l = 0 then sumf (ce l c) l.length else 0
theorem sum_rng {l : List (List D)} (hv : ∀ i : Int, 0 ≤ i → i < l.length → okS l i) (k : Nat) (hk : k ≤ l.length) : (-5000 * (k : Int) ≤ sumf (ce l 0) k ∧ sumf (ce l 0) k ≤ 5000 * k) ∧ (-5000 * (k : Int) ≤ sumf (ce l 1) k ∧ sumf (ce l 1) k ≤ 5000 * k) := by
  constructor
  · refine sumf_bound fun i i0 i1 => ?_
    have := hv i i0 (by omega)
    simp only [okS] at this
    omega
  · refine sumf_bound fun i i0 i1 => ?_
    have := hv i i0 (by omega)
    simp only [okS] at this
    omega
theorem reach_gen {l : List (List D)} : ∃ o, shReach_T.run reM 30 [.l l] = some o ∧ o = [.i (reS l 0), .i (reS l 1), .i (vd l)] := by
  refine run_to ?_
  unfold shReach_T
  refine To.viaK (by (try simp (disch := omega) only [X.den, X.dens, X.denss, D.int_i, D.boo_b, D.str_s, D.rows_l, List.getD_cons_zero, List.getD_cons_succ, List.cons_append, List.nil_append, List.append_nil, List.length_cons, List.length_nil, decide_eq_true_eq, decide_eq_false_iff_not, Bool.not_eq_true', Bool.not_eq_false', Bool.and_eq_true, Bool.and_eq_false_iff, Bool.true_eq_false, Bool.false_eq_true, Bool.not_true, Bool.not_false, eq_self, D.len_l, wr64, not_true_eq_false, not_false_eq_true]); exact valid_gen) ?_
  rintro _ ρ2 rfl eρ
  refine ⟨rfl, ?_⟩
  simp only [List.cons_append, List.nil_append] at eρ
  subst eρ
  refine To.ite (fun c => ?_) (fun c => ?_) <;> simp only [X.den, X.dens, X.denss, D.int_i, D.boo_b, D.str_s, D.rows_l, List.getD_cons_zero, List.getD_cons_succ, List.cons_append, List.nil_append, List.append_nil, List.length_cons, List.length_nil, decide_eq_true_eq, decide_eq_false_iff_not, Bool.not_eq_true', Bool.not_eq_false', Bool.and_eq_true, Bool.and_eq_false_iff, Bool.true_eq_false, Bool.false_eq_true, Bool.not_true, Bool.not_false, eq_self] at c
  · obtain ⟨h8, hv⟩ := vd_zero c
    refine To.loopK (fun m o => ∃ k : Nat, o = [.i (sumf (ce l 0) k), .i (sumf (ce l 1) k), .i k] ∧ k + m = l.length) (fun o => o = [.i (sumf (ce l 0) l.length), .i (sumf (ce l 1) l.length)]) l.length (by omega) ?_ ?_ ?_
    · exact ⟨0, rfl, by omega⟩
    · rintro m o ρ2 ⟨k, rfl, hk⟩ eρ
      simp only [List.cons_append, List.nil_append] at eρ
      subst eρ
      refine To.ite (fun c => ?_) (fun c => ?_) <;> simp only [X.den, X.dens, X.denss, D.int_i, D.boo_b, D.str_s, D.rows_l, List.getD_cons_zero, List.getD_cons_succ, List.cons_append, List.nil_append, List.append_nil, List.length_cons, List.length_nil, decide_eq_true_eq, decide_eq_false_iff_not, Bool.not_eq_true', Bool.not_eq_false', Bool.and_eq_true, Bool.and_eq_false_iff, Bool.true_eq_false, Bool.false_eq_true, Bool.not_true, Bool.not_false, eq_self, D.len_l] at c
      · refine To.need (by simp only [X.den, X.dens, X.denss, D.int_i, D.boo_b, D.str_s, D.rows_l, List.getD_cons_zero, List.getD_cons_succ, List.cons_append, List.nil_append, List.append_nil, List.length_cons, List.length_nil, decide_eq_true_eq, decide_eq_false_iff_not, Bool.not_eq_true', Bool.not_eq_false', Bool.and_eq_true, Bool.and_eq_false_iff, Bool.true_eq_false, Bool.false_eq_true, Bool.not_true, Bool.not_false, eq_self, D.len_l]; omega) ?_
        have b := sum_rng hv k (by omega)
        have b2 := sum_rng hv (k + 1) (by omega)
        simp only [sumf] at b2
        refine To.ret (.inl ⟨rfl, m - 1, by omega, k + 1, ?_, by omega⟩)
        simp (disch := omega) only [X.den, X.dens, X.denss, D.int_i, D.boo_b, D.str_s, D.rows_l, List.getD_cons_zero, List.getD_cons_succ, List.cons_append, List.nil_append, List.append_nil, List.length_cons, List.length_nil, wr64, ce_def, sumf, nat_succ]
      · obtain rfl : k = l.length := by omega
        exact To.ret (.inr ⟨rfl, by simp only [X.den, X.dens, X.denss, D.int_i, D.boo_b, D.str_s, D.rows_l, List.getD_cons_zero, List.getD_cons_succ, List.cons_append, List.nil_append, List.append_nil, List.length_cons, List.length_nil]⟩)
    · rintro o ρ2 rfl eρ
      simp only [List.cons_append, List.nil_append] at eρ
      subst eρ
      refine ⟨rfl, To.ret ?_⟩
      simp only [X.den, X.dens, X.denss, D.int_i, D.boo_b, D.str_s, D.rows_l, List.getD_cons_zero, List.getD_cons_succ, List.cons_append, List.nil_append, List.append_nil, List.length_cons, List.length_nil, reS, c, eq_self, if_true]
  · refine To.ret ?_
    simp only [X.den, X.dens, X.denss, D.int_i, D.boo_b, D.str_s, D.rows_l, List.getD_cons_zero, List.getD_cons_succ, List.cons_append, List.nil_append, List.append_nil, List.length_cons, List.length_nil, reS, if_neg c]
theorem shReach_ok : ConOk Try.prog shReach_K (shReach_T.run reM 30) := con_run follows (one_con (shValid_ok.to _) no_cons) shReach_t rfl 30
/-- as many numbers as rows, each in its range -/
def InR (l x : List (List D)) : Prop := x.length = l.length ∧ Rng l.length (ce l 0) (ce l 1) (ce x 0)
open Classical in
noncomputable def inr (l x : List (List D)) : Bool := decide (InR l x)
theorem inr_true {l x} : inr l x = true ↔ InR l x := by simp only [inr, decide_eq_true_eq]
theorem inR_gen {l x : List (List D)} (h8 : l.length ≤ 8) : ∃ o, shInR_T.run noM 30 [.l l, .l x] = some o ∧ o = [.b (inr l x)] := by
  refine run_to ?_
  unfold shInR_T
  refine To.ite (fun c => ?_) (fun c => ?_) <;> simp only [X.den, X.dens, X.denss, D.int_i, D.boo_b, D.str_s, D.rows_l, List.getD_cons_zero, List.getD_cons_succ, List.cons_append, List.nil_append, List.append_nil, List.length_cons, List.length_nil, decide_eq_true_eq, decide_eq_false_iff_not, Bool.not_eq_true', Bool.not_eq_false', Bool.and_eq_true, Bool.and_eq_false_iff, Bool.true_eq_false, Bool.false_eq_true, Bool.not_true, Bool.not_false, eq_self, D.len_l] at c
  · refine To.loopK (fun m o => ∃ i, o = [.i i] ∧ 0 ≤ i ∧ i + m = l.length ∧ ∀ j : Int, 0 ≤ j → j < i → ce l 0 j ≤ ce x 0 j ∧ ce x 0 j ≤ ce l 1 j) (fun o => (∃ a b d, o = [.i 0, a, b, d] ∧ inr l x = false) ∨ (∃ a b d, o = [.i 1, a, b, d] ∧ inr l x = true)) l.length (by omega) ?_ ?_ ?_
    · exact ⟨0, by simp only [X.den, X.dens, X.denss, D.int_i, D.boo_b, D.str_s, D.rows_l, List.getD_cons_zero, List.getD_cons_succ, List.cons_append, List.nil_append, List.append_nil, List.length_cons, List.length_nil], by omega, by omega, by intro j; omega⟩
    · rintro m o ρ2 ⟨i, rfl, i0, i1, hj⟩ eρ
      simp only [List.cons_append, List.nil_append] at eρ
      subst eρ
      refine To.ite (fun c => ?_) (fun c => ?_) <;> simp only [X.den, X.dens, X.denss, D.int_i, D.boo_b, D.str_s, D.rows_l, List.getD_cons_zero, List.getD_cons_succ, List.cons_append, List.nil_append, List.append_nil, List.length_cons, List.length_nil, decide_eq_true_eq, decide_eq_false_iff_not, Bool.not_eq_true', Bool.not_eq_false', Bool.and_eq_true, Bool.and_eq_false_iff, Bool.true_eq_false, Bool.false_eq_true, Bool.not_true, Bool.not_false, eq_self, D.len_l] at c
      · refine To.need (by simp only [X.den, X.dens, X.denss, D.int_i, D.boo_b, D.str_s, D.rows_l, List.getD_cons_zero, List.getD_cons_succ, List.cons_append, List.nil_append, List.append_nil, List.length_cons, List.length_nil, decide_eq_true_eq, decide_eq_false_iff_not, Bool.not_eq_true', Bool.not_eq_false', Bool.and_eq_true, Bool.and_eq_false_iff, Bool.true_eq_false, Bool.false_eq_true, Bool.not_true, Bool.not_false, eq_self, D.len_l]; omega) ?_
        refine To.joinK (fun o => ∃ t, o = [.b t] ∧ (t = true ↔ ¬ (ce l 0 i ≤ ce x 0 i ∧ ce x 0 i ≤ ce l 1 i))) ?_ ?_
        · refine To.need (by simp only [X.den, X.dens, X.denss, D.int_i, D.boo_b, D.str_s, D.rows_l, List.getD_cons_zero, List.getD_cons_succ, List.cons_append, List.nil_append, List.append_nil, List.length_cons, List.length_nil, decide_eq_true_eq, decide_eq_false_iff_not, Bool.not_eq_true', Bool.not_eq_false', Bool.and_eq_true, Bool.and_eq_false_iff, Bool.true_eq_false, Bool.false_eq_true, Bool.not_true, Bool.not_false, eq_self, D.len_l]; omega) ?_
          (repeat' (refine To.ite (fun c => ?_) (fun c => ?_) <;> simp only [X.den, X.dens, X.denss, D.int_i, D.boo_b, D.str_s, D.rows_l, List.getD_cons_zero, List.getD_cons_succ, List.cons_append, List.nil_append, List.append_nil, List.length_cons, List.length_nil, decide_eq_true_eq, decide_eq_false_iff_not, Bool.not_eq_true', Bool.not_eq_false', Bool.and_eq_true, Bool.and_eq_false_iff, Bool.true_eq_false, Bool.false_eq_true, Bool.not_true, Bool.not_false, eq_self, D.len_l, ce_def] at c))
          all_goals (refine To.ret ⟨rfl, _, rfl, ?_⟩; simp only [X.den, X.dens, X.denss, D.int_i, D.boo_b, D.str_s, D.rows_l, List.getD_cons_zero, List.getD_cons_succ, List.cons_append, List.nil_append, List.append_nil, List.length_cons, List.length_nil, decide_eq_true_eq, decide_eq_false_iff_not, Bool.not_eq_true', Bool.not_eq_false', Bool.and_eq_true, Bool.and_eq_false_iff, Bool.true_eq_false, Bool.false_eq_true, Bool.not_true, Bool.not_false, eq_self, ce_def, true_iff]; omega)
        rintro o ρ2 ⟨t, rfl, ht⟩ eρ
        simp only [List.cons_append, List.nil_append] at eρ
        subst eρ
        refine To.ite (fun ct => ?_) (fun ct => ?_) <;> simp only [X.den, X.dens, X.denss, D.int_i, D.boo_b, D.str_s, D.rows_l, List.getD_cons_zero, List.getD_cons_succ, List.cons_append, List.nil_append, List.append_nil, List.length_cons, List.length_nil] at ct
        · refine To.ret (.inr ⟨rfl, .inl ⟨_, _, _, rfl, ?_⟩⟩)
          exact Bool.eq_false_iff.2 fun q => ht.1 ct ((inr_true.1 q).2 i i0 (by omega))
        · refine To.ret (.inl ⟨rfl, m - 1, by omega, ?_⟩)
          simp (disch := omega) only [X.den, X.dens, X.denss, D.int_i, D.boo_b, D.str_s, D.rows_l, List.getD_cons_zero, List.getD_cons_succ, List.cons_append, List.nil_append, List.append_nil, List.length_cons, List.length_nil, wr64]
          refine ⟨_, rfl, by omega, by omega, fun j j0 j1 => ?_⟩
          by_cases e : j = i
          · subst e
            exact Classical.byContradiction fun q => by rw [ht.2 q] at ct; cases ct
          · exact hj j j0 (by omega)
      · refine To.ret (.inr ⟨rfl, .inr ⟨_, _, _, rfl, inr_true.2 ⟨by omega, fun j j0 j1 => hj j j0 (by omega)⟩⟩⟩)
    · rintro o ρ2 (⟨a, b, d, rfl, h⟩ | ⟨a, b, d, rfl, h⟩) eρ
      · simp only [List.cons_append, List.nil_append] at eρ
        subst eρ
        refine ⟨rfl, To.yes rfl (To.ret ?_)⟩
        simp only [X.den, X.dens, X.denss, D.int_i, D.boo_b, D.str_s, D.rows_l, List.getD_cons_zero, List.getD_cons_succ, List.cons_append, List.nil_append, List.append_nil, List.length_cons, List.length_nil, h]
      · simp only [List.cons_append, List.nil_append] at eρ
        subst eρ
        refine ⟨rfl, To.no rfl (To.ret ?_)⟩
        simp only [X.den, X.dens, X.denss, D.int_i, D.boo_b, D.str_s, D.rows_l, List.getD_cons_zero, List.getD_cons_succ, List.cons_append, List.nil_append, List.append_nil, List.length_cons, List.length_nil, h]
  · refine To.ret ?_
    have : inr l x = false := Bool.eq_false_iff.2 fun q => by have := (inr_true.1 q).1; omega
    simp only [X.den, X.dens, X.denss, D.int_i, D.boo_b, D.str_s, D.rows_l, List.getD_cons_zero, List.getD_cons_succ, List.cons_append, List.nil_append, List.append_nil, List.length_cons, List.length_nil, this]
theorem shInR_ok : ConOk Try.prog shInR_K (shInR_T.run noM 30) := con_run follows no_cons shInR_t rfl 30
def suM : Models := Models.on shValid_K.f (shValid_T.run noM 30) (Models.on shInR_K.f (shInR_T.run noM 30) noM)
def cost (l x : List (List D)) (i : Int) : Int := ce l 2 i * ce x 0 i * ce x 0 i
open Classical in
noncomputable def suS (l x : List (List D)) : Int × Int := if vd l = 0 then (if x.length = l.length then (if inr l x = true then (sumf (cost l x) l.length, 0) else (0, 1)) else (0, 8)) else (0, vd l)
theorem cost_rng {l x : List (List D)} {i : Int} (h : okS l i) (hx : ce l 0 i ≤ ce x 0 i ∧ ce x 0 i ≤ ce l 1 i) : (-500000 ≤ ce l 2 i * ce x 0 i ∧ ce l 2 i * ce x 0 i ≤ 500000) ∧ 0 ≤ cost l x i ∧ cost l x i ≤ 2500000000 := by
  simp only [okS] at h
  unfold cost
  generalize ce l 2 i = c at *
  generalize ce x 0 i = u at *
  have a := Int.mul_le_mul_of_nonneg_left (show -5000 ≤ u by omega) (show 0 ≤ c by omega)
  have b := Int.mul_le_mul_of_nonneg_left (show u ≤ 5000 by omega) (show 0 ≤ c by omega)
  have q : u * u ≤ 25000000 := by
    have e1 := Int.mul_nonneg (show 0 ≤ 5000 - u by omega) (show 0 ≤ 5000 + u by omega)
    grind
  have q0 : 0 ≤ u * u := by
    rcases Int.le_total 0 u with h | h
    · exact Int.mul_nonneg h h
    · have := Int.mul_nonneg (show 0 ≤ -u by omega) (show 0 ≤ -u by omega)
      grind
  have d := Int.mul_le_mul_of_nonneg_left q (show 0 ≤ c by omega)
  have e := Int.mul_nonneg (show 0 ≤ c by omega) q0
  rw [← Int.mul_assoc] at d e
  omega
theorem sum_gen {l x : List (List D)} : ∃ o, shSum_T.run suM 30 [.l l, .l x] = some o ∧ o = [.i (suS l x).1, .i (suS l x).2] := by
  refine run_to ?_
  unfold shSum_T
  refine To.viaK (by (try simp (disch := omega) only [X.den, X.dens, X.denss, D.int_i, D.boo_b, D.str_s, D.rows_l, List.getD_cons_zero, List.getD_cons_succ, List.cons_append, List.nil_append, List.append_nil, List.length_cons, List.length_nil, decide_eq_true_eq, decide_eq_false_iff_not, Bool.not_eq_true', Bool.not_eq_false', Bool.and_eq_true, Bool.and_eq_false_iff, Bool.true_eq_false, Bool.false_eq_true, Bool.not_true, Bool.not_false, eq_self, D.len_l, wr64, not_true_eq_false, not_false_eq_true]); exact valid_gen) ?_
  rintro _ ρ2 rfl eρ
  refine ⟨rfl, ?_⟩
  simp only [List.cons_append, List.nil_append] at eρ
  subst eρ
  refine To.ite (fun c => ?_) (fun c => ?_) <;> simp only [X.den, X.dens, X.denss, D.int_i, D.boo_b, D.str_s, D.rows_l, List.getD_cons_zero, List.getD_cons_succ, List.cons_append, List.nil_append, List.append_nil, List.length_cons, List.length_nil, decide_eq_true_eq, decide_eq_false_iff_not, Bool.not_eq_true', Bool.not_eq_false', Bool.and_eq_true, Bool.and_eq_false_iff, Bool.true_eq_false, Bool.false_eq_true, Bool.not_true, Bool.not_false, eq_self] at c
  · obtain ⟨h8, hv⟩ := vd_zero c
    refine To.ite (fun c2 => ?_) (fun c2 => ?_) <;> simp only [X.den, X.dens, X.denss, D.int_i, D.boo_b, D.str_s, D.rows_l, List.getD_cons_zero, List.getD_cons_succ, List.cons_append, List.nil_append, List.append_nil, List.length_cons, List.length_nil, decide_eq_true_eq, decide_eq_false_iff_not, Bool.not_eq_true', Bool.not_eq_false', Bool.and_eq_true, Bool.and_eq_false_iff, Bool.true_eq_false, Bool.false_eq_true, Bool.not_true, Bool.not_false, eq_self, D.len_l] at c2
    · have c2' : x.length = l.length := by omega
      refine To.viaK (by (try simp (disch := omega) only [X.den, X.dens, X.denss, D.int_i, D.boo_b, D.str_s, D.rows_l, List.getD_cons_zero, List.getD_cons_succ, List.cons_append, List.nil_append, List.append_nil, List.length_cons, List.length_nil, decide_eq_true_eq, decide_eq_false_iff_not, Bool.not_eq_true', Bool.not_eq_false', Bool.and_eq_true, Bool.and_eq_false_iff, Bool.true_eq_false, Bool.false_eq_true, Bool.not_true, Bool.not_false, eq_self, D.len_l, wr64, not_true_eq_false, not_false_eq_true]); exact inR_gen h8) ?_
      rintro _ ρ2 rfl eρ
      refine ⟨rfl, ?_⟩
      simp only [List.cons_append, List.nil_append] at eρ
      subst eρ
      refine To.ite (fun c3 => ?_) (fun c3 => ?_) <;> simp only [X.den, X.dens, X.denss, D.int_i, D.boo_b, D.str_s, D.rows_l, List.getD_cons_zero, List.getD_cons_succ, List.cons_append, List.nil_append, List.append_nil, List.length_cons, List.length_nil] at c3
      · obtain ⟨_, hr⟩ := inr_true.1 c3
        have hb : ∀ k : Nat, k ≤ l.length → 0 * (k : Int) ≤ sumf (cost l x) k ∧ sumf (cost l x) k ≤ 2500000000 * k := fun k hk => sumf_bound fun i i0 i1 => (cost_rng (hv i i0 (by omega)) (hr i i0 (by omega))).2
        refine To.loopK (fun m o => ∃ k : Nat, o = [.i (sumf (cost l x) k), .i k] ∧ k + m = l.length) (fun o => o = [.i (sumf (cost l x) l.length)]) l.length (by omega) ?_ ?_ ?_
        · exact ⟨0, rfl, by omega⟩
        · rintro m o ρ2 ⟨k, rfl, hk⟩ eρ
          simp only [List.cons_append, List.nil_append] at eρ
          subst eρ
          refine To.ite (fun c => ?_) (fun c => ?_) <;> simp only [X.den, X.dens, X.denss, D.int_i, D.boo_b, D.str_s, D.rows_l, List.getD_cons_zero, List.getD_cons_succ, List.cons_append, List.nil_append, List.append_nil, List.length_cons, List.length_nil, decide_eq_true_eq, decide_eq_false_iff_not, Bool.not_eq_true', Bool.not_eq_false', Bool.and_eq_true, Bool.and_eq_false_iff, Bool.true_eq_false, Bool.false_eq_true, Bool.not_true, Bool.not_false, eq_self, D.len_l] at c
          · refine To.need (by simp only [X.den, X.dens, X.denss, D.int_i, D.boo_b, D.str_s, D.rows_l, List.getD_cons_zero, List.getD_cons_succ, List.cons_append, List.nil_append, List.append_nil, List.length_cons, List.length_nil, decide_eq_true_eq, decide_eq_false_iff_not, Bool.not_eq_true', Bool.not_eq_false', Bool.and_eq_true, Bool.and_eq_false_iff, Bool.true_eq_false, Bool.false_eq_true, Bool.not_true, Bool.not_false, eq_self, D.len_l]; omega) ?_
            refine To.need (by simp only [X.den, X.dens, X.denss, D.int_i, D.boo_b, D.str_s, D.rows_l, List.getD_cons_zero, List.getD_cons_succ, List.cons_append, List.nil_append, List.append_nil, List.length_cons, List.length_nil, decide_eq_true_eq, decide_eq_false_iff_not, Bool.not_eq_true', Bool.not_eq_false', Bool.and_eq_true, Bool.and_eq_false_iff, Bool.true_eq_false, Bool.false_eq_true, Bool.not_true, Bool.not_false, eq_self, D.len_l]; omega) ?_
            have b := hb k (by omega)
            have b2 := cost_rng (hv k (by omega) (by omega)) (hr k (by omega) (by omega))
            have e : ce l 2 k * ce x 0 k * ce x 0 k = cost l x k := rfl
            refine To.ret (.inl ⟨rfl, m - 1, by omega, k + 1, ?_, by omega⟩)
            simp (disch := omega) only [X.den, X.dens, X.denss, D.int_i, D.boo_b, D.str_s, D.rows_l, List.getD_cons_zero, List.getD_cons_succ, List.cons_append, List.nil_append, List.append_nil, List.length_cons, List.length_nil, wr64, ce_def, sumf, nat_succ, e]
          · obtain rfl : k = l.length := by omega
            exact To.ret (.inr ⟨rfl, by simp only [X.den, X.dens, X.denss, D.int_i, D.boo_b, D.str_s, D.rows_l, List.getD_cons_zero, List.getD_cons_succ, List.cons_append, List.nil_append, List.append_nil, List.length_cons, List.length_nil]⟩)
        · rintro o ρ2 rfl eρ
          simp only [List.cons_append, List.nil_append] at eρ
          subst eρ
          refine ⟨rfl, To.ret ?_⟩
          simp only [X.den, X.dens, X.denss, D.int_i, D.boo_b, D.str_s, D.rows_l, List.getD_cons_zero, List.getD_cons_succ, List.cons_append, List.nil_append, List.append_nil, List.length_cons, List.length_nil, suS, if_pos c, if_pos c2', if_pos c3]
      · refine To.ret ?_
        simp only [X.den, X.dens, X.denss, D.int_i, D.boo_b, D.str_s, D.rows_l, List.getD_cons_zero, List.getD_cons_succ, List.cons_append, List.nil_append, List.append_nil, List.length_cons, List.length_nil, suS, if_pos c, if_pos c2', c3, if_neg (show ¬ (false = true) by decide)]
    · refine To.ret ?_
      simp only [X.den, X.dens, X.denss, D.int_i, D.boo_b, D.str_s, D.rows_l, List.getD_cons_zero, List.getD_cons_succ, List.cons_append, List.nil_append, List.append_nil, List.length_cons, List.length_nil, suS, if_pos c, if_neg (show ¬ x.length = l.length by omega)]
  · refine To.ret ?_
    simp only [X.den, X.dens, X.denss, D.int_i, D.boo_b, D.str_s, D.rows_l, List.getD_cons_zero, List.getD_cons_succ, List.cons_append, List.nil_append, List.append_nil, List.length_cons, List.length_nil, suS, if_neg c]
theorem shSum_ok : ConOk Try.prog shSum_K (shSum_T.run suM 30) := con_run follows (one_con (shValid_ok.to _) (one_con (shInR_ok.to _) no_cons)) shSum_t rfl 30
end Go.Proofs.Ytlhnhidoljfnnaa
