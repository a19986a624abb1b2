/- Shares: prices, the check, what is divided. -/
import Derived.Test.YtlhnhidoljfnnaaShr
set_option linter.unusedVariables false
set_option linter.unusedSimpArgs false
namespace Go.Proofs.Ytlhnhidoljfnnaa
open Go.RowKit Fx Sh
def lossF (l x : List (List D)) (i : Int) : Int := ce l 2 i * (2 * ce x 0 i - 1)
def growF (l x : List (List D)) (i : Int) : Int := ce l 2 i * (2 * ce x 0 i + 1)
def loP (l x : List (List D)) : Nat → Int
  | 0 => -1000200
  | k + 1 => if ce l 0 k < ce x 0 k then max (loP l x k) (lossF l x k) else loP l x k
def hiP (l x : List (List D)) : Nat → Int
  | 0 => 1000200
  | k + 1 => if ce x 0 k < ce l 1 k then min (hiP l x k) (growF l x k) else hiP l x k
theorem loss_rng {l x : List (List D)} {i : Int} (h : okS l i) (hx : ce l 0 i ≤ ce x 0 i ∧ ce x 0 i ≤ ce l 1 i) : (-1000100 ≤ lossF l x i ∧ lossF l x i ≤ 1000100) ∧ (-1000100 ≤ growF l x i ∧ growF l x i ≤ 1000100) := by
  simp only [okS] at h
  unfold lossF growF
  generalize ce l 2 i = c at *
  generalize ce x 0 i = u at *
  have a := Int.mul_le_mul_of_nonneg_left (show -10001 ≤ 2 * u - 1 by omega) (show 0 ≤ c by omega)
  have b := Int.mul_le_mul_of_nonneg_left (show 2 * u - 1 ≤ 10001 by omega) (show 0 ≤ c by omega)
  have d := Int.mul_le_mul_of_nonneg_left (show -10001 ≤ 2 * u + 1 by omega) (show 0 ≤ c by omega)
  have e := Int.mul_le_mul_of_nonneg_left (show 2 * u + 1 ≤ 10001 by omega) (show 0 ≤ c by omega)
  omega
theorem loP_spec {l x : List (List D)} (k : Nat) : (∀ i : Int, 0 ≤ i → i < k → ce l 0 i < ce x 0 i → lossF l x i ≤ loP l x k) ∧ (loP l x k = -1000200 ∨ ∃ i : Int, 0 ≤ i ∧ i < k ∧ ce l 0 i < ce x 0 i ∧ loP l x k = lossF l x i) := by
  induction k with
  | zero => exact ⟨fun i a b => by omega, .inl rfl⟩
  | succ k ih =>
    obtain ⟨h1, h2⟩ := ih
    simp only [loP]
    split
    · rename_i c
      refine ⟨fun i a b d => ?_, ?_⟩
      · by_cases e : i = k
        · subst e; omega
        · have := h1 i a (by omega) d; omega
      · by_cases m : loP l x k ≤ lossF l x k
        · exact .inr ⟨k, by omega, by omega, c, by omega⟩
        · rcases h2 with h2 | ⟨i, a, b, d, e⟩
          · exact .inl (by omega)
          · exact .inr ⟨i, a, by omega, d, by omega⟩
    · rename_i c
      refine ⟨fun i a b d => ?_, ?_⟩
      · by_cases e : i = k
        · subst e; exact absurd d c
        · exact h1 i a (by omega) d
      · rcases h2 with h2 | ⟨i, a, b, d, e⟩
        · exact .inl h2
        · exact .inr ⟨i, a, by omega, d, e⟩
theorem hiP_spec {l x : List (List D)} (k : Nat) : (∀ i : Int, 0 ≤ i → i < k → ce x 0 i < ce l 1 i → hiP l x k ≤ growF l x i) ∧ (hiP l x k = 1000200 ∨ ∃ i : Int, 0 ≤ i ∧ i < k ∧ ce x 0 i < ce l 1 i ∧ hiP l x k = growF l x i) := by
  induction k with
  | zero => exact ⟨fun i a b => by omega, .inl rfl⟩
  | succ k ih =>
    obtain ⟨h1, h2⟩ := ih
    simp only [hiP]
    split
    · rename_i c
      refine ⟨fun i a b d => ?_, ?_⟩
      · by_cases e : i = k
        · subst e; omega
        · have := h1 i a (by omega) d; omega
      · by_cases m : growF l x k ≤ hiP l x k
        · exact .inr ⟨k, by omega, by omega, c, by omega⟩
        · rcases h2 with h2 | ⟨i, a, b, d, e⟩
          · exact .inl (by omega)
          · exact .inr ⟨i, a, by omega, d, by omega⟩
    · rename_i c
      refine ⟨fun i a b d => ?_, ?_⟩
      · by_cases e : i = k
        · subst e; exact absurd d c
        · exact h1 i a (by omega) d
      · rcases h2 with h2 | ⟨i, a, b, d, e⟩
        · exact .inl h2
        · exact .inr ⟨i, a, by omega, d, e⟩
/-- what Price gives -/
noncomputable def prS (l x : List (List D)) : List D :=
  if vd l = 0 then (if inr l x = true then (if loP l x l.length = -1000200 then [.i 0, .i 0, .b false] else if hiP l x l.length = 1000200 then [.i 0, .i 0, .b false] else [.i (loP l x l.length), .i (hiP l x l.length), .b true]) else [.i 0, .i 0, .b false]) else [.i 0, .i 0, .b false]
theorem price_gen {l x : List (List D)} : ∃ o, shPrice_T.run suM 30 [.l l, .l x] = some o ∧ o = prS l x := by
  refine run_to ?_
  unfold shPrice_T
  refine To.joinK (fun o => ∃ t, o = [.b t] ∧ (t = true ↔ ¬ (vd l = 0 ∧ inr l x = true))) ?_ ?_
  · refine To.viaK (by (try simp (disch := omega) only [X.den, X.dens, X.denss, D.int_i, D.boo_b, D.str_s, D.rows_l, List.getD_cons_zero, List.getD_cons_succ, List.cons_append, List.nil_append, List.append_nil, List.length_cons, List.length_nil, decide_eq_true_eq, decide_eq_false_iff_not, Bool.not_eq_true', Bool.not_eq_false', Bool.and_eq_true, Bool.and_eq_false_iff, Bool.true_eq_false, Bool.false_eq_true, Bool.not_true, Bool.not_false, eq_self, D.len_l, wr64, not_true_eq_false, not_false_eq_true]); exact valid_gen) ?_
    rintro _ ρ2 rfl eρ
    refine ⟨rfl, ?_⟩
    simp only [List.cons_append, List.nil_append] at eρ
    subst eρ
    refine To.ite (fun c => ?_) (fun c => ?_) <;> simp only [X.den, X.dens, X.denss, D.int_i, D.boo_b, D.str_s, D.rows_l, List.getD_cons_zero, List.getD_cons_succ, List.cons_append, List.nil_append, List.append_nil, List.length_cons, List.length_nil, decide_eq_true_eq, decide_eq_false_iff_not, Bool.not_eq_true', Bool.not_eq_false', Bool.and_eq_true, Bool.and_eq_false_iff, Bool.true_eq_false, Bool.false_eq_true, Bool.not_true, Bool.not_false, eq_self] at c
    · refine To.viaK (by (try simp (disch := omega) only [X.den, X.dens, X.denss, D.int_i, D.boo_b, D.str_s, D.rows_l, List.getD_cons_zero, List.getD_cons_succ, List.cons_append, List.nil_append, List.append_nil, List.length_cons, List.length_nil, decide_eq_true_eq, decide_eq_false_iff_not, Bool.not_eq_true', Bool.not_eq_false', Bool.and_eq_true, Bool.and_eq_false_iff, Bool.true_eq_false, Bool.false_eq_true, Bool.not_true, Bool.not_false, eq_self, D.len_l, wr64, not_true_eq_false, not_false_eq_true]); exact inR_gen (vd_zero c).1) ?_
      rintro _ ρ2 rfl eρ
      refine ⟨rfl, ?_⟩
      simp only [List.cons_append, List.nil_append] at eρ
      subst eρ
      refine To.ret ⟨rfl, _, by simp only [X.den, X.dens, X.denss, D.int_i, D.boo_b, D.str_s, D.rows_l, List.getD_cons_zero, List.getD_cons_succ, List.cons_append, List.nil_append, List.append_nil, List.length_cons, List.length_nil]; rfl, ?_⟩
      simp only [c, true_and, eq_self]
      cases inr l x <;> simp
    · refine To.ret ⟨rfl, _, by simp only [X.den, X.dens, X.denss, D.int_i, D.boo_b, D.str_s, D.rows_l, List.getD_cons_zero, List.getD_cons_succ, List.cons_append, List.nil_append, List.append_nil, List.length_cons, List.length_nil]; rfl, ?_⟩
      simp only [c, false_and, not_false_eq_true]
  rintro o ρ2 ⟨t, rfl, ht⟩ eρ
  simp only [List.cons_append, List.nil_append] at eρ
  subst eρ
  refine To.ite (fun ct => ?_) (fun ct => ?_) <;> simp only [X.den, X.dens, X.denss, D.int_i, D.boo_b, D.str_s, D.rows_l, List.getD_cons_zero, List.getD_cons_succ, List.cons_append, List.nil_append, List.append_nil, List.length_cons, List.length_nil] at ct
  · refine To.ret ?_
    simp only [X.den, X.dens, X.denss, D.int_i, D.boo_b, D.str_s, D.rows_l, List.getD_cons_zero, List.getD_cons_succ, List.cons_append, List.nil_append, List.append_nil, List.length_cons, List.length_nil]
    have h := ht.1 ct
    unfold prS
    by_cases a : vd l = 0
    · rw [if_pos a, if_neg (fun b => h ⟨a, b⟩)]
    · rw [if_neg a]
  · have h : vd l = 0 ∧ inr l x = true := Classical.byContradiction fun q => by rw [ht.2 q] at ct; cases ct
    obtain ⟨h8, hv⟩ := vd_zero h.1
    obtain ⟨hx, hr⟩ := inr_true.1 h.2
    have lb : ∀ k : Nat, k ≤ l.length → (-1000200 ≤ loP l x k ∧ loP l x k ≤ 1000200) ∧ (-1000200 ≤ hiP l x k ∧ hiP l x k ≤ 1000200) := fun k hk => by
      constructor
      · rcases (loP_spec (l := l) (x := x) k).2 with e | ⟨i, a, b, d, e⟩
        · omega
        · have := (loss_rng (hv i a (by omega)) (hr i a (by omega))).1; omega
      · rcases (hiP_spec (l := l) (x := x) k).2 with e | ⟨i, a, b, d, e⟩
        · omega
        · have := (loss_rng (hv i a (by omega)) (hr i a (by omega))).2; omega
    refine To.loopK (fun m o => ∃ k : Nat, o = [.i (loP l x k), .i (hiP l x k), .i k] ∧ k + m = l.length) (fun o => o = [.i (loP l x l.length), .i (hiP l x l.length)]) l.length (by omega) ?_ ?_ ?_
    · exact ⟨0, rfl, by omega⟩
    · rintro m o ρ2 ⟨k, rfl, hk⟩ eρ
      simp only [List.cons_append, List.nil_append] at eρ
      subst eρ
      refine To.ite (fun c => ?_) (fun c => ?_) <;> simp only [X.den, X.dens, X.denss, D.int_i, D.boo_b, D.str_s, D.rows_l, List.getD_cons_zero, List.getD_cons_succ, List.cons_append, List.nil_append, List.append_nil, List.length_cons, List.length_nil, decide_eq_true_eq, decide_eq_false_iff_not, Bool.not_eq_true', Bool.not_eq_false', Bool.and_eq_true, Bool.and_eq_false_iff, Bool.true_eq_false, Bool.false_eq_true, Bool.not_true, Bool.not_false, eq_self, D.len_l] at c
      · have b2 := loss_rng (hv k (by omega) (by omega)) (hr k (by omega) (by omega))
        have o2 := hv k (by omega) (by omega)
        have r2 := hr k (by omega) (by omega)
        simp only [okS] at o2
        have e1 : ce l 2 k * (2 * ce x 0 k - 1) = lossF l x k := rfl
        have e2 : ce l 2 k * (2 * ce x 0 k + 1) = growF l x k := rfl
        refine To.joinK (fun o => o = [.i (loP l x (k + 1)), .i (hiP l x (k + 1))]) ?_ ?_
        · refine To.need (by simp only [X.den, X.dens, X.denss, D.int_i, D.boo_b, D.str_s, D.rows_l, List.getD_cons_zero, List.getD_cons_succ, List.cons_append, List.nil_append, List.append_nil, List.length_cons, List.length_nil, decide_eq_true_eq, decide_eq_false_iff_not, Bool.not_eq_true', Bool.not_eq_false', Bool.and_eq_true, Bool.and_eq_false_iff, Bool.true_eq_false, Bool.false_eq_true, Bool.not_true, Bool.not_false, eq_self, D.len_l]; omega) ?_
          refine To.joinK (fun o => o = [.i (loP l x (k + 1))]) ?_ ?_
          · refine To.need (by simp only [X.den, X.dens, X.denss, D.int_i, D.boo_b, D.str_s, D.rows_l, List.getD_cons_zero, List.getD_cons_succ, List.cons_append, List.nil_append, List.append_nil, List.length_cons, List.length_nil, decide_eq_true_eq, decide_eq_false_iff_not, Bool.not_eq_true', Bool.not_eq_false', Bool.and_eq_true, Bool.and_eq_false_iff, Bool.true_eq_false, Bool.false_eq_true, Bool.not_true, Bool.not_false, eq_self, D.len_l]; omega) ?_
            refine To.ite (fun c => ?_) (fun c => ?_) <;> simp only [X.den, X.dens, X.denss, D.int_i, D.boo_b, D.str_s, D.rows_l, List.getD_cons_zero, List.getD_cons_succ, List.cons_append, List.nil_append, List.append_nil, List.length_cons, List.length_nil, decide_eq_true_eq, decide_eq_false_iff_not, Bool.not_eq_true', Bool.not_eq_false', Bool.and_eq_true, Bool.and_eq_false_iff, Bool.true_eq_false, Bool.false_eq_true, Bool.not_true, Bool.not_false, eq_self, ce_def] at c
            · refine To.ret ⟨rfl, ?_⟩
              simp (disch := omega) only [X.den, X.dens, X.denss, D.int_i, D.boo_b, D.str_s, D.rows_l, List.getD_cons_zero, List.getD_cons_succ, List.cons_append, List.nil_append, List.append_nil, List.length_cons, List.length_nil, wr64, ce_def, e1, loP, if_pos c]
            · refine To.ret ⟨rfl, ?_⟩
              simp only [X.den, X.dens, X.denss, D.int_i, D.boo_b, D.str_s, D.rows_l, List.getD_cons_zero, List.getD_cons_succ, List.cons_append, List.nil_append, List.append_nil, List.length_cons, List.length_nil, ce_def, loP, if_neg c]
          · rintro o ρ2 rfl eρ
            simp only [List.cons_append, List.nil_append] at eρ
            subst eρ
            refine To.need (by simp only [X.den, X.dens, X.denss, D.int_i, D.boo_b, D.str_s, D.rows_l, List.getD_cons_zero, List.getD_cons_succ, List.cons_append, List.nil_append, List.append_nil, List.length_cons, List.length_nil, decide_eq_true_eq, decide_eq_false_iff_not, Bool.not_eq_true', Bool.not_eq_false', Bool.and_eq_true, Bool.and_eq_false_iff, Bool.true_eq_false, Bool.false_eq_true, Bool.not_true, Bool.not_false, eq_self, D.len_l]; omega) ?_
            refine To.ite (fun c => ?_) (fun c => ?_) <;> simp only [X.den, X.dens, X.denss, D.int_i, D.boo_b, D.str_s, D.rows_l, List.getD_cons_zero, List.getD_cons_succ, List.cons_append, List.nil_append, List.append_nil, List.length_cons, List.length_nil, decide_eq_true_eq, decide_eq_false_iff_not, Bool.not_eq_true', Bool.not_eq_false', Bool.and_eq_true, Bool.and_eq_false_iff, Bool.true_eq_false, Bool.false_eq_true, Bool.not_true, Bool.not_false, eq_self, ce_def] at c
            · refine To.ret ⟨rfl, ?_⟩
              simp (disch := omega) only [X.den, X.dens, X.denss, D.int_i, D.boo_b, D.str_s, D.rows_l, List.getD_cons_zero, List.getD_cons_succ, List.cons_append, List.nil_append, List.append_nil, List.length_cons, List.length_nil, wr64, ce_def, e2, hiP, if_pos c]
            · refine To.ret ⟨rfl, ?_⟩
              simp only [X.den, X.dens, X.denss, D.int_i, D.boo_b, D.str_s, D.rows_l, List.getD_cons_zero, List.getD_cons_succ, List.cons_append, List.nil_append, List.append_nil, List.length_cons, List.length_nil, ce_def, hiP, if_neg c]
        · rintro o ρ2 rfl eρ
          simp only [List.cons_append, List.nil_append] at eρ
          subst eρ
          refine To.ret (.inl ⟨rfl, m - 1, by omega, k + 1, ?_, by omega⟩)
          simp (disch := omega) only [X.den, X.dens, X.denss, D.int_i, D.boo_b, D.str_s, D.rows_l, List.getD_cons_zero, List.getD_cons_succ, List.cons_append, List.nil_append, List.append_nil, List.length_cons, List.length_nil, wr64, nat_succ]
      · obtain rfl : k = l.length := by omega
        exact To.ret (.inr ⟨rfl, by simp only [X.den, X.dens, X.denss, D.int_i, D.boo_b, D.str_s, D.rows_l, List.getD_cons_zero, List.getD_cons_succ, List.cons_append, List.nil_append, List.append_nil, List.length_cons, List.length_nil]⟩)
    · rintro o ρ2 rfl eρ
      simp only [List.cons_append, List.nil_append] at eρ
      subst eρ
      refine ⟨rfl, ?_⟩
      unfold prS
      rw [if_pos h.1, if_pos h.2]
      refine To.joinK (fun o => ∃ t, o = [.b t] ∧ (t = true ↔ (loP l x l.length = -1000200 ∨ hiP l x l.length = 1000200))) ?_ ?_
      · refine To.ite (fun c => ?_) (fun c => ?_) <;> simp only [X.den, X.dens, X.denss, D.int_i, D.boo_b, D.str_s, D.rows_l, List.getD_cons_zero, List.getD_cons_succ, List.cons_append, List.nil_append, List.append_nil, List.length_cons, List.length_nil, decide_eq_true_eq, decide_eq_false_iff_not, Bool.not_eq_true', Bool.not_eq_false', Bool.and_eq_true, Bool.and_eq_false_iff, Bool.true_eq_false, Bool.false_eq_true, Bool.not_true, Bool.not_false, eq_self] at c
        · refine To.ret ⟨rfl, _, by simp only [X.den, X.dens, X.denss, D.int_i, D.boo_b, D.str_s, D.rows_l, List.getD_cons_zero, List.getD_cons_succ, List.cons_append, List.nil_append, List.append_nil, List.length_cons, List.length_nil]; rfl, ?_⟩
          simp [c]
        · refine To.ret ⟨rfl, _, by simp only [X.den, X.dens, X.denss, D.int_i, D.boo_b, D.str_s, D.rows_l, List.getD_cons_zero, List.getD_cons_succ, List.cons_append, List.nil_append, List.append_nil, List.length_cons, List.length_nil]; rfl, ?_⟩
          simp [c]
      · rintro o ρ2 ⟨t, rfl, ht⟩ eρ
        simp only [List.cons_append, List.nil_append] at eρ
        subst eρ
        refine To.ite (fun ct => ?_) (fun ct => ?_) <;> simp only [X.den, X.dens, X.denss, D.int_i, D.boo_b, D.str_s, D.rows_l, List.getD_cons_zero, List.getD_cons_succ, List.cons_append, List.nil_append, List.append_nil, List.length_cons, List.length_nil] at ct
        · refine To.ret ?_
          simp only [X.den, X.dens, X.denss, D.int_i, D.boo_b, D.str_s, D.rows_l, List.getD_cons_zero, List.getD_cons_succ, List.cons_append, List.nil_append, List.append_nil, List.length_cons, List.length_nil]
          rcases ht.1 ct with q | q
          · rw [if_pos q]
          · rw [if_pos q]
            split <;> rfl
        · refine To.ret ?_
          simp only [X.den, X.dens, X.denss, D.int_i, D.boo_b, D.str_s, D.rows_l, List.getD_cons_zero, List.getD_cons_succ, List.cons_append, List.nil_append, List.append_nil, List.length_cons, List.length_nil]
          have nq : ¬ (loP l x l.length = -1000200 ∨ hiP l x l.length = 1000200) := fun q => by rw [ht.2 q] at ct; cases ct
          rw [if_neg (fun q => nq (.inl q)), if_neg (fun q => nq (.inr q))]
theorem shPrice_ok : ConOk Try.prog shPrice_K (shPrice_T.run suM 30) := con_run follows (one_con (shValid_ok.to _) (one_con (shInR_ok.to _) no_cons)) shPrice_t rfl 30
/-- what the sum shall be -/
noncomputable def goal (l : List (List D)) (t : Int) : Int := max (reS l 0) (min t (reS l 1))
def Chk (l : List (List D)) (t : Int) (x : List (List D)) : Prop := (vd l = 0 ∧ InR l x ∧ sumf (ce x 0) l.length = goal l t) ∧ NoMove l.length (ce l 0) (ce l 1) (ce l 2) (ce x 0)
def ckM : Models := Models.on shReach_K.f (shReach_T.run reM 30) (Models.on shInR_K.f (shInR_T.run noM 30) noM)
open Classical in
noncomputable def chk (l : List (List D)) (t : Int) (x : List (List D)) : Bool := decide (Chk l t x)
theorem chk_true {l t x} : chk l t x = true ↔ Chk l t x := by simp only [chk, decide_eq_true_eq]
def Cond (l x : List (List D)) (i j : Int) : Prop := i ≠ j → ce l 0 i < ce x 0 i → ce x 0 j < ce l 1 j → ce l 2 i * (2 * ce x 0 i - 1) ≤ ce l 2 j * (2 * ce x 0 j + 1)
theorem check_gen {l x : List (List D)} {t : Int} : ∃ o, shCheck_T.run ckM 30 [.l l, .i t, .l x] = some o ∧ o = [.b (chk l t x)] := by
  refine run_to ?_
  unfold shCheck_T
  refine To.viaK (by (try simp (disch := omega) only [X.den, X.dens, X.denss, D.int_i, D.boo_b, D.str_s, D.rows_l, List.getD_cons_zero, List.getD_cons_succ, List.cons_append, List.nil_append, List.append_nil, List.length_cons, List.length_nil, decide_eq_true_eq, decide_eq_false_iff_not, Bool.not_eq_true', Bool.not_eq_false', Bool.and_eq_true, Bool.and_eq_false_iff, Bool.true_eq_false, Bool.false_eq_true, Bool.not_true, Bool.not_false, eq_self, D.len_l, wr64, not_true_eq_false, not_false_eq_true]); exact reach_gen) ?_
  rintro _ ρ2 rfl eρ
  refine ⟨rfl, ?_⟩
  simp only [List.cons_append, List.nil_append] at eρ
  subst eρ
  refine To.joinK (fun o => ∃ b, o = [.b b] ∧ (b = true ↔ ¬ (vd l = 0 ∧ InR l x ∧ sumf (ce x 0) l.length = goal l t))) ?_ ?_
  · refine To.ite (fun c => ?_) (fun c => ?_) <;> simp only [X.den, X.dens, X.denss, D.int_i, D.boo_b, D.str_s, D.rows_l, List.getD_cons_zero, List.getD_cons_succ, List.cons_append, List.nil_append, List.append_nil, List.length_cons, List.length_nil, decide_eq_true_eq, decide_eq_false_iff_not, Bool.not_eq_true', Bool.not_eq_false', Bool.and_eq_true, Bool.and_eq_false_iff, Bool.true_eq_false, Bool.false_eq_true, Bool.not_true, Bool.not_false, eq_self] at c
    · obtain ⟨h8, hv⟩ := vd_zero c
      refine To.viaK (by (try simp (disch := omega) only [X.den, X.dens, X.denss, D.int_i, D.boo_b, D.str_s, D.rows_l, List.getD_cons_zero, List.getD_cons_succ, List.cons_append, List.nil_append, List.append_nil, List.length_cons, List.length_nil, decide_eq_true_eq, decide_eq_false_iff_not, Bool.not_eq_true', Bool.not_eq_false', Bool.and_eq_true, Bool.and_eq_false_iff, Bool.true_eq_false, Bool.false_eq_true, Bool.not_true, Bool.not_false, eq_self, D.len_l, wr64, not_true_eq_false, not_false_eq_true]); exact inR_gen h8) ?_
      rintro _ ρ2 rfl eρ
      refine ⟨rfl, ?_⟩
      simp only [List.cons_append, List.nil_append] at eρ
      subst eρ
      refine To.ite (fun c3 => ?_) (fun c3 => ?_) <;> simp only [X.den, X.dens, X.denss, D.int_i, D.boo_b, D.str_s, D.rows_l, List.getD_cons_zero, List.getD_cons_succ, List.cons_append, List.nil_append, List.append_nil, List.length_cons, List.length_nil] at c3
      · have c4 := inr_true.1 c3
        obtain ⟨hx, hr⟩ := c4
        have hb : ∀ k : Nat, k ≤ l.length → -5000 * (k : Int) ≤ sumf (ce x 0) k ∧ sumf (ce x 0) k ≤ 5000 * k := fun k hk => sumf_bound fun i i0 i1 => by
          have a := hv i i0 (by omega)
          have b := hr i i0 (by omega)
          simp only [okS] at a
          omega
        refine To.loopK (fun m o => ∃ k : Nat, o = [.i (sumf (ce x 0) k), .i k] ∧ k + m = l.length) (fun o => o = [.i (sumf (ce x 0) l.length)]) l.length (by omega) ?_ ?_ ?_
        · exact ⟨0, rfl, by omega⟩
        · rintro m o ρ2 ⟨k, rfl, hk⟩ eρ
          simp only [List.cons_append, List.nil_append] at eρ
          subst eρ
          refine To.ite (fun c => ?_) (fun c => ?_) <;> simp only [X.den, X.dens, X.denss, D.int_i, D.boo_b, D.str_s, D.rows_l, List.getD_cons_zero, List.getD_cons_succ, List.cons_append, List.nil_append, List.append_nil, List.length_cons, List.length_nil, decide_eq_true_eq, decide_eq_false_iff_not, Bool.not_eq_true', Bool.not_eq_false', Bool.and_eq_true, Bool.and_eq_false_iff, Bool.true_eq_false, Bool.false_eq_true, Bool.not_true, Bool.not_false, eq_self, D.len_l] at c
          · refine To.need (by simp only [X.den, X.dens, X.denss, D.int_i, D.boo_b, D.str_s, D.rows_l, List.getD_cons_zero, List.getD_cons_succ, List.cons_append, List.nil_append, List.append_nil, List.length_cons, List.length_nil, decide_eq_true_eq, decide_eq_false_iff_not, Bool.not_eq_true', Bool.not_eq_false', Bool.and_eq_true, Bool.and_eq_false_iff, Bool.true_eq_false, Bool.false_eq_true, Bool.not_true, Bool.not_false, eq_self, D.len_l]; omega) ?_
            have b := hb k (by omega)
            have b2 := hb (k + 1) (by omega)
            simp only [sumf] at b2
            refine To.ret (.inl ⟨rfl, m - 1, by omega, k + 1, ?_, by omega⟩)
            simp (disch := omega) only [X.den, X.dens, X.denss, D.int_i, D.boo_b, D.str_s, D.rows_l, List.getD_cons_zero, List.getD_cons_succ, List.cons_append, List.nil_append, List.append_nil, List.length_cons, List.length_nil, wr64, ce_def, sumf, nat_succ]
          · obtain rfl : k = l.length := by omega
            exact To.ret (.inr ⟨rfl, by simp only [X.den, X.dens, X.denss, D.int_i, D.boo_b, D.str_s, D.rows_l, List.getD_cons_zero, List.getD_cons_succ, List.cons_append, List.nil_append, List.append_nil, List.length_cons, List.length_nil]⟩)
        · rintro o ρ2 rfl eρ
          simp only [List.cons_append, List.nil_append] at eρ
          subst eρ
          refine ⟨rfl, To.ret ⟨rfl, _, by simp only [X.den, X.dens, X.denss, D.int_i, D.boo_b, D.str_s, D.rows_l, List.getD_cons_zero, List.getD_cons_succ, List.cons_append, List.nil_append, List.append_nil, List.length_cons, List.length_nil]; rfl, ?_⟩⟩
          have : InR l x := ⟨hx, hr⟩
          simp only [c, this, true_and, eq_self, goal, decide_eq_true_eq, decide_eq_false_iff_not, Bool.not_eq_true', Bool.not_eq_false', Bool.and_eq_true, Bool.and_eq_false_iff, Bool.true_eq_false, Bool.false_eq_true, Bool.not_true, Bool.not_false, eq_self]
      · refine To.ret ⟨rfl, _, by simp only [X.den, X.dens, X.denss, D.int_i, D.boo_b, D.str_s, D.rows_l, List.getD_cons_zero, List.getD_cons_succ, List.cons_append, List.nil_append, List.append_nil, List.length_cons, List.length_nil]; rfl, ?_⟩
        have : ¬ InR l x := fun q => by rw [inr_true.2 q] at c3; cases c3
        simp only [this, false_and, and_false, not_false_eq_true]
    · refine To.ret ⟨rfl, _, by simp only [X.den, X.dens, X.denss, D.int_i, D.boo_b, D.str_s, D.rows_l, List.getD_cons_zero, List.getD_cons_succ, List.cons_append, List.nil_append, List.append_nil, List.length_cons, List.length_nil]; rfl, ?_⟩
      simp only [c, false_and, not_false_eq_true]
  rintro o ρ2 ⟨b, rfl, hb⟩ eρ
  simp only [List.cons_append, List.nil_append] at eρ
  subst eρ
  refine To.ite (fun ct => ?_) (fun ct => ?_) <;> simp only [X.den, X.dens, X.denss, D.int_i, D.boo_b, D.str_s, D.rows_l, List.getD_cons_zero, List.getD_cons_succ, List.cons_append, List.nil_append, List.append_nil, List.length_cons, List.length_nil] at ct
  · refine To.ret ?_
    have : chk l t x = false := Bool.eq_false_iff.2 fun q => hb.1 ct (chk_true.1 q).1
    simp only [X.den, X.dens, X.denss, D.int_i, D.boo_b, D.str_s, D.rows_l, List.getD_cons_zero, List.getD_cons_succ, List.cons_append, List.nil_append, List.append_nil, List.length_cons, List.length_nil, this]
  · have h : vd l = 0 ∧ InR l x ∧ sumf (ce x 0) l.length = goal l t := Classical.byContradiction fun q => by rw [hb.2 q] at ct; cases ct
    obtain ⟨h8, hv⟩ := vd_zero h.1
    obtain ⟨hx, hr⟩ := h.2.1
    have no : ∀ i j : Int, 0 ≤ i → i < l.length → 0 ≤ j → j < l.length → ¬ Cond l x i j → chk l t x = false := fun i j a b d e f => Bool.eq_false_iff.2 fun q => f ((chk_true.1 q).2 i j a b d e)
    refine To.loopK (fun m o => ∃ i : Int, o = [.i i] ∧ 0 ≤ i ∧ i + m = l.length ∧ ∀ a : Int, 0 ≤ a → a < i → ∀ b : Int, 0 ≤ b → b < l.length → Cond l x a b) (fun o => (o = [.i 0] ∧ chk l t x = false) ∨ (o = [.i 1] ∧ chk l t x = true)) l.length (by omega) ?_ ?_ ?_
    · exact ⟨0, by simp only [X.den, X.dens, X.denss, D.int_i, D.boo_b, D.str_s, D.rows_l, List.getD_cons_zero, List.getD_cons_succ, List.cons_append, List.nil_append, List.append_nil, List.length_cons, List.length_nil], by omega, by omega, by intro a; omega⟩
    · rintro m o ρ2 ⟨i, rfl, i0, i1, hi⟩ eρ
      simp only [List.cons_append, List.nil_append] at eρ
      subst eρ
      refine To.ite (fun c => ?_) (fun c => ?_) <;> simp only [X.den, X.dens, X.denss, D.int_i, D.boo_b, D.str_s, D.rows_l, List.getD_cons_zero, List.getD_cons_succ, List.cons_append, List.nil_append, List.append_nil, List.length_cons, List.length_nil, decide_eq_true_eq, decide_eq_false_iff_not, Bool.not_eq_true', Bool.not_eq_false', Bool.and_eq_true, Bool.and_eq_false_iff, Bool.true_eq_false, Bool.false_eq_true, Bool.not_true, Bool.not_false, eq_self, D.len_l] at c
      · refine To.loopK (fun m o => ∃ j : Int, o = [.i j] ∧ 0 ≤ j ∧ j + m = l.length ∧ ∀ b : Int, 0 ≤ b → b < j → Cond l x i b) (fun o => (∃ rest, o = .i 0 :: rest ∧ rest.length = 12 ∧ chk l t x = false) ∨ (∃ rest, o = .i 1 :: rest ∧ rest.length = 12 ∧ ∀ b : Int, 0 ≤ b → b < l.length → Cond l x i b)) l.length (by omega) ?_ ?_ ?_
        · exact ⟨0, by simp only [X.den, X.dens, X.denss, D.int_i, D.boo_b, D.str_s, D.rows_l, List.getD_cons_zero, List.getD_cons_succ, List.cons_append, List.nil_append, List.append_nil, List.length_cons, List.length_nil], by omega, by omega, by intro a; omega⟩
        · rintro n o ρ2 ⟨j, rfl, j0, j1, hj⟩ eρ
          simp only [List.cons_append, List.nil_append] at eρ
          subst eρ
          refine To.ite (fun c2 => ?_) (fun c2 => ?_) <;> simp only [X.den, X.dens, X.denss, D.int_i, D.boo_b, D.str_s, D.rows_l, List.getD_cons_zero, List.getD_cons_succ, List.cons_append, List.nil_append, List.append_nil, List.length_cons, List.length_nil, decide_eq_true_eq, decide_eq_false_iff_not, Bool.not_eq_true', Bool.not_eq_false', Bool.and_eq_true, Bool.and_eq_false_iff, Bool.true_eq_false, Bool.false_eq_true, Bool.not_true, Bool.not_false, eq_self, D.len_l] at c2
          · have oi := hv i i0 (by omega)
            have oj := hv j j0 (by omega)
            have ri := hr i i0 (by omega)
            have rj := hr j j0 (by omega)
            have bi := loss_rng oi ri
            have bj := loss_rng oj rj
            simp only [okS] at oi oj
            have e1 : ce l 2 i * (2 * ce x 0 i - 1) = lossF l x i := rfl
            have e2 : ce l 2 j * (2 * ce x 0 j + 1) = growF l x j := rfl
            refine To.joinK (fun o => ∃ a1 a2 a3 a4 b, o = [a1, a2, a3, a4, .b b] ∧ (b = true ↔ ¬ Cond l x i j)) ?_ ?_
            · (repeat' (first
                | (refine To.need (by simp only [X.den, X.dens, X.denss, D.int_i, D.boo_b, D.str_s, D.rows_l, List.getD_cons_zero, List.getD_cons_succ, List.cons_append, List.nil_append, List.append_nil, List.length_cons, List.length_nil, decide_eq_true_eq, decide_eq_false_iff_not, Bool.not_eq_true', Bool.not_eq_false', Bool.and_eq_true, Bool.and_eq_false_iff, Bool.true_eq_false, Bool.false_eq_true, Bool.not_true, Bool.not_false, eq_self, D.len_l]; omega) ?_)
                | (refine To.ite (fun c => ?_) (fun c => ?_) <;> simp only [X.den, X.dens, X.denss, D.int_i, D.boo_b, D.str_s, D.rows_l, List.getD_cons_zero, List.getD_cons_succ, List.cons_append, List.nil_append, List.append_nil, List.length_cons, List.length_nil, decide_eq_true_eq, decide_eq_false_iff_not, Bool.not_eq_true', Bool.not_eq_false', Bool.and_eq_true, Bool.and_eq_false_iff, Bool.true_eq_false, Bool.false_eq_true, Bool.not_true, Bool.not_false, eq_self, D.len_l, ce_def] at c)))
              all_goals (refine To.ret ⟨rfl, _, _, _, _, _, rfl, ?_⟩; simp (disch := omega) only [X.den, X.dens, X.denss, D.int_i, D.boo_b, D.str_s, D.rows_l, List.getD_cons_zero, List.getD_cons_succ, List.cons_append, List.nil_append, List.append_nil, List.length_cons, List.length_nil, decide_eq_true_eq, decide_eq_false_iff_not, Bool.not_eq_true', Bool.not_eq_false', Bool.and_eq_true, Bool.and_eq_false_iff, Bool.true_eq_false, Bool.false_eq_true, Bool.not_true, Bool.not_false, eq_self, wr64, ce_def, Cond, e1, e2])
              all_goals grind
            rintro o ρ2 ⟨a1, a2, a3, a4, b, rfl, ht⟩ eρ
            simp only [List.cons_append, List.nil_append] at eρ
            subst eρ
            refine To.ite (fun c3 => ?_) (fun c3 => ?_) <;> simp only [X.den, X.dens, X.denss, D.int_i, D.boo_b, D.str_s, D.rows_l, List.getD_cons_zero, List.getD_cons_succ, List.cons_append, List.nil_append, List.append_nil, List.length_cons, List.length_nil] at c3
            · exact To.ret (.inr ⟨rfl, .inl ⟨_, rfl, rfl, no i j i0 (by omega) j0 (by omega) (ht.1 c3)⟩⟩)
            · refine To.ret (.inl ⟨rfl, n - 1, by omega, ?_⟩)
              simp (disch := omega) only [X.den, X.dens, X.denss, D.int_i, D.boo_b, D.str_s, D.rows_l, List.getD_cons_zero, List.getD_cons_succ, List.cons_append, List.nil_append, List.append_nil, List.length_cons, List.length_nil, wr64]
              refine ⟨_, rfl, by omega, by omega, fun b b0 b1 => ?_⟩
              by_cases e : b = j
              · subst e
                exact Classical.byContradiction fun q => by rw [ht.2 q] at c3; cases c3
              · exact hj b b0 (by omega)
          · exact To.ret (.inr ⟨rfl, .inr ⟨_, rfl, rfl, fun b b0 b1 => hj b b0 (by omega)⟩⟩)
        · rintro o ρ2 (⟨rest, rfl, hl, hc⟩ | ⟨rest, rfl, hl, hc⟩) eρ
          · simp only [List.cons_append, List.nil_append] at eρ
            subst eρ
            refine ⟨by simp only [List.length_cons, hl], To.yes rfl (To.ret (.inr ⟨rfl, .inl ⟨by simp only [X.den, X.dens, X.denss, D.int_i, D.boo_b, D.str_s, D.rows_l, List.getD_cons_zero, List.getD_cons_succ, List.cons_append, List.nil_append, List.append_nil, List.length_cons, List.length_nil], hc⟩⟩))⟩
          · simp only [List.cons_append, List.nil_append] at eρ
            subst eρ
            refine ⟨by simp only [List.length_cons, hl], To.no rfl (To.ret (.inl ⟨rfl, m - 1, by omega, ?_⟩))⟩
            simp (disch := omega) only [X.den, X.dens, X.denss, D.int_i, D.boo_b, D.str_s, D.rows_l, List.getD_cons_zero, List.getD_cons_succ, List.cons_append, List.nil_append, List.append_nil, List.length_cons, List.length_nil, wr64]
            refine ⟨_, rfl, by omega, by omega, fun a a0 a1 => ?_⟩
            by_cases e : a = i
            · subst e; exact hc
            · exact hi a a0 (by omega)
      · refine To.ret (.inr ⟨rfl, .inr ⟨by simp only [X.den, X.dens, X.denss, D.int_i, D.boo_b, D.str_s, D.rows_l, List.getD_cons_zero, List.getD_cons_succ, List.cons_append, List.nil_append, List.append_nil, List.length_cons, List.length_nil], ?_⟩⟩)
        exact chk_true.2 ⟨h, fun i j a b d e => hi i a (by omega) j d e⟩
    · rintro o ρ2 (⟨rfl, h⟩ | ⟨rfl, h⟩) eρ
      · simp only [List.cons_append, List.nil_append] at eρ
        subst eρ
        refine ⟨rfl, To.yes rfl (To.ret ?_)⟩
        simp only [X.den, X.dens, X.denss, D.int_i, D.boo_b, D.str_s, D.rows_l, List.getD_cons_zero, List.getD_cons_succ, List.cons_append, List.nil_append, List.append_nil, List.length_cons, List.length_nil, h]
      · simp only [List.cons_append, List.nil_append] at eρ
        subst eρ
        refine ⟨rfl, To.no rfl (To.ret ?_)⟩
        simp only [X.den, X.dens, X.denss, D.int_i, D.boo_b, D.str_s, D.rows_l, List.getD_cons_zero, List.getD_cons_succ, List.cons_append, List.nil_append, List.append_nil, List.length_cons, List.length_nil, h]
theorem shCheck_ok : ConOk Try.prog shCheck_K (shCheck_T.run ckM 30) := con_run follows (one_con (shReach_ok.to _) (one_con (shInR_ok.to _) no_cons)) shCheck_t rfl 30
end Go.Proofs.Ytlhnhidoljfnnaa
