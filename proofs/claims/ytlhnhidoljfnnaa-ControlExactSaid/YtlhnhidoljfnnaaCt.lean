/- Control in numbers: what the program's functions and the reference's give. -/
import Derived.Test.YtlhnhidoljfnnaaCtA
set_option linter.unusedVariables false
set_option linter.unusedSimpArgs false
namespace Go.Proofs.Ytlhnhidoljfnnaa
open Go.RowKit Fx
def gok (g0 g1 g2 g3 g4 g5 g6 g7 g8 : Int) : Prop := (0 ≤ g0 ∧ g0 ≤ 100000) ∧ (0 ≤ g1 ∧ g1 ≤ 100000) ∧ (0 ≤ g2 ∧ g2 ≤ 100000) ∧ (0 ≤ g3 ∧ g3 ≤ 100000) ∧ (0 ≤ g4 ∧ g4 ≤ 100000) ∧ (0 ≤ g5 ∧ g5 ≤ 100000) ∧ (0 ≤ g6 ∧ g6 ≤ 10000000) ∧ (0 ≤ g7 ∧ g7 ≤ 5000) ∧ (0 ≤ g8 ∧ g8 ≤ 500000)
instance (g0 g1 g2 g3 g4 g5 g6 g7 g8 : Int) : Decidable (gok g0 g1 g2 g3 g4 g5 g6 g7 g8) := by unfold gok; infer_instance
def ck (g0 g1 g2 g3 g4 g5 g6 g7 g8 : Int) : Int := if gok g0 g1 g2 g3 g4 g5 g6 g7 g8 then 0 else 62
def CKm : List D → Option (List D) := fun ds => some [.i (ck (ia ds 0) (ia ds 1) (ia ds 2) (ia ds 3) (ia ds 4) (ia ds 5) (ia ds 6) (ia ds 7) (ia ds 8))]
def okp (x y : Int) : Prop := (-100000000 ≤ x ∧ x ≤ 100000000) ∧ -100000000 ≤ y ∧ y ≤ 100000000
instance (x y : Int) : Decidable (okp x y) := by unfold okp; infer_instance
def vok (g0 g1 g2 g3 g4 g5 g6 g7 g8 sx sy sh lx ly lh : Int) : Prop := gok g0 g1 g2 g3 g4 g5 g6 g7 g8 ∧ (-g6 ≤ sx ∧ sx ≤ g6) ∧ (-g6 ≤ sy ∧ sy ≤ g6) ∧ (-g6 ≤ sh ∧ sh ≤ g6) ∧ okp lx ly ∧ 0 ≤ lh ∧ lh < 3600
instance (g0 g1 g2 g3 g4 g5 g6 g7 g8 sx sy sh lx ly lh : Int) : Decidable (vok g0 g1 g2 g3 g4 g5 g6 g7 g8 sx sy sh lx ly lh) := by unfold vok; infer_instance
def vd (g0 g1 g2 g3 g4 g5 g6 g7 g8 sx sy sh lx ly lh : Int) : Bool := decide (vok g0 g1 g2 g3 g4 g5 g6 g7 g8 sx sy sh lx ly lh)
def VDm : List D → Option (List D) := fun ds => some [.b (vd (ia ds 0) (ia ds 1) (ia ds 2) (ia ds 3) (ia ds 4) (ia ds 5) (ia ds 6) (ia ds 7) (ia ds 8) (ia ds 9) (ia ds 10) (ia ds 11) (ia ds 12) (ia ds 13) (ia ds 14))]
theorem ck_yes {g0 g1 g2 g3 g4 g5 g6 g7 g8 : Int} (h : gok g0 g1 g2 g3 g4 g5 g6 g7 g8) : ck g0 g1 g2 g3 g4 g5 g6 g7 g8 = 0 := if_pos h
theorem ck_no {g0 g1 g2 g3 g4 g5 g6 g7 g8 : Int} (h : ¬ gok g0 g1 g2 g3 g4 g5 g6 g7 g8) : ck g0 g1 g2 g3 g4 g5 g6 g7 g8 = 62 := if_neg h
theorem pChk_ok : ConOk Try.prog pChk_K CKm := con_tot follows (M := noM) no_cons pChk_t rfl 0 fun ds outs hl h => by
  have hl' : ds.length = 9 := hl
  match ds, hl' with
  | [D0, D1, D2, D3, D4, D5, D6, D7, D8], _ =>
    injection h with h
    subst h
    simp only [ia, List.getD_cons_zero, List.getD_cons_succ]

    unfold pChk_T
    (repeat' (first
        
        | (refine To.subK (fun K hK => ?_))
        | (refine To.need (by simp (disch := omega) only [X.den, X.dens, X.denss, D.int_i, D.boo_b, D.str_s, D.rows_l, List.getD_cons_zero, List.getD_cons_succ, List.cons_append, List.nil_append, List.append_nil, List.length_cons, List.length_nil, decide_eq_true_eq, decide_eq_false_iff_not, Bool.not_eq_true', Bool.not_eq_false', Bool.and_eq_true, Bool.and_eq_false_iff, Bool.true_eq_false, Bool.false_eq_true, Bool.not_true, Bool.not_false, eq_self, D.len_l, wr64, not_true_eq_false, not_false_eq_true] <;> omega) ?_)
        | (refine To.ite (fun c => ?_) (fun c => ?_) <;> ((try simp (disch := omega) only [X.den, X.dens, X.denss, D.int_i, D.boo_b, D.str_s, D.rows_l, List.getD_cons_zero, List.getD_cons_succ, List.cons_append, List.nil_append, List.append_nil, List.length_cons, List.length_nil, decide_eq_true_eq, decide_eq_false_iff_not, Bool.not_eq_true', Bool.not_eq_false', Bool.and_eq_true, Bool.and_eq_false_iff, Bool.true_eq_false, Bool.false_eq_true, Bool.not_true, Bool.not_false, eq_self, D.len_l, wr64, not_true_eq_false, not_false_eq_true] at c) <;> (try (exfalso; omega))))
        | (refine To.ret ⟨rfl, ?_⟩; (try simp (disch := omega) only [X.den, X.dens, X.denss, D.int_i, D.boo_b, D.str_s, D.rows_l, List.getD_cons_zero, List.getD_cons_succ, List.cons_append, List.nil_append, List.append_nil, List.length_cons, List.length_nil, decide_eq_true_eq, decide_eq_false_iff_not, Bool.not_eq_true', Bool.not_eq_false', Bool.and_eq_true, Bool.and_eq_false_iff, Bool.true_eq_false, Bool.false_eq_true, Bool.not_true, Bool.not_false, eq_self, D.len_l, wr64, not_true_eq_false, not_false_eq_true]); refine hK _ _ (by simp only [List.cons_append, List.nil_append]; first | done | rfl) ?_; clear hK; clear K)))
    all_goals
      refine To.ret ?_
      simp only [X.den, X.dens, X.denss, D.int_i, D.boo_b, D.str_s, D.rows_l, List.getD_cons_zero, List.getD_cons_succ, List.cons_append, List.nil_append, List.append_nil, List.length_cons, List.length_nil]
      simp only [List.cons.injEq, D.i.injEq, and_true]
      first
      | (rw [ck_yes]; unfold gok; omega)
      | (rw [ck_no]; unfold gok; omega)
theorem rChk_ok : ConOk Try.prog rChk_K CKm := con_tot follows (M := noM) no_cons rChk_t rfl 0 fun ds outs hl h => by
  have hl' : ds.length = 9 := hl
  match ds, hl' with
  | [D0, D1, D2, D3, D4, D5, D6, D7, D8], _ =>
    injection h with h
    subst h
    simp only [ia, List.getD_cons_zero, List.getD_cons_succ]

    unfold rChk_T
    (repeat' (first
        
        | (refine To.subK (fun K hK => ?_))
        | (refine To.need (by simp (disch := omega) only [X.den, X.dens, X.denss, D.int_i, D.boo_b, D.str_s, D.rows_l, List.getD_cons_zero, List.getD_cons_succ, List.cons_append, List.nil_append, List.append_nil, List.length_cons, List.length_nil, decide_eq_true_eq, decide_eq_false_iff_not, Bool.not_eq_true', Bool.not_eq_false', Bool.and_eq_true, Bool.and_eq_false_iff, Bool.true_eq_false, Bool.false_eq_true, Bool.not_true, Bool.not_false, eq_self, D.len_l, wr64, not_true_eq_false, not_false_eq_true] <;> omega) ?_)
        | (refine To.ite (fun c => ?_) (fun c => ?_) <;> ((try simp (disch := omega) only [X.den, X.dens, X.denss, D.int_i, D.boo_b, D.str_s, D.rows_l, List.getD_cons_zero, List.getD_cons_succ, List.cons_append, List.nil_append, List.append_nil, List.length_cons, List.length_nil, decide_eq_true_eq, decide_eq_false_iff_not, Bool.not_eq_true', Bool.not_eq_false', Bool.and_eq_true, Bool.and_eq_false_iff, Bool.true_eq_false, Bool.false_eq_true, Bool.not_true, Bool.not_false, eq_self, D.len_l, wr64, not_true_eq_false, not_false_eq_true] at c) <;> (try (exfalso; omega))))
        | (refine To.ret ⟨rfl, ?_⟩; (try simp (disch := omega) only [X.den, X.dens, X.denss, D.int_i, D.boo_b, D.str_s, D.rows_l, List.getD_cons_zero, List.getD_cons_succ, List.cons_append, List.nil_append, List.append_nil, List.length_cons, List.length_nil, decide_eq_true_eq, decide_eq_false_iff_not, Bool.not_eq_true', Bool.not_eq_false', Bool.and_eq_true, Bool.and_eq_false_iff, Bool.true_eq_false, Bool.false_eq_true, Bool.not_true, Bool.not_false, eq_self, D.len_l, wr64, not_true_eq_false, not_false_eq_true]); refine hK _ _ (by simp only [List.cons_append, List.nil_append]; first | done | rfl) ?_; clear hK; clear K)))
    all_goals
      refine To.ret ?_
      simp only [X.den, X.dens, X.denss, D.int_i, D.boo_b, D.str_s, D.rows_l, List.getD_cons_zero, List.getD_cons_succ, List.cons_append, List.nil_append, List.append_nil, List.length_cons, List.length_nil]
      simp only [List.cons.injEq, D.i.injEq, and_true]
      first
      | (rw [ck_yes]; unfold gok; omega)
      | (rw [ck_no]; unfold gok; omega)
theorem pVal_ok : ConOk Try.prog pVal_K VDm := con_tot follows (M := Models.on pChk_K.f CKm noM) (one_con (pChk_ok.to _) no_cons) pVal_t rfl 0 fun ds outs hl h => by
  have hl' : ds.length = 16 := hl
  match ds, hl' with
  | [D0, D1, D2, D3, D4, D5, D6, D7, D8, D9, D10, D11, D12, D13, D14, D15], _ =>
    injection h with h
    subst h
    simp only [ia, List.getD_cons_zero, List.getD_cons_succ]
    unfold pVal_T
    by_cases hg : gok D0.int D1.int D2.int D3.int D4.int D5.int D6.int D7.int D8.int
    · have e := ck_yes hg
      have hg' := hg
      unfold gok at hg'
      (repeat' (first
          | (refine To.callX rfl (fun ρ2 eρ => ⟨rfl, ?_⟩); simp (disch := omega) only [X.den, X.dens, X.denss, D.int_i, D.boo_b, D.str_s, D.rows_l, List.getD_cons_zero, List.getD_cons_succ, List.cons_append, List.nil_append, List.append_nil, List.length_cons, List.length_nil, decide_eq_true_eq, decide_eq_false_iff_not, Bool.not_eq_true', Bool.not_eq_false', Bool.and_eq_true, Bool.and_eq_false_iff, Bool.true_eq_false, Bool.false_eq_true, Bool.not_true, Bool.not_false, eq_self, D.len_l, wr64, not_true_eq_false, not_false_eq_true, ia, e] at eρ; subst eρ)
          | (refine To.subK (fun K hK => ?_))
          | (refine To.need (by simp (disch := omega) only [X.den, X.dens, X.denss, D.int_i, D.boo_b, D.str_s, D.rows_l, List.getD_cons_zero, List.getD_cons_succ, List.cons_append, List.nil_append, List.append_nil, List.length_cons, List.length_nil, decide_eq_true_eq, decide_eq_false_iff_not, Bool.not_eq_true', Bool.not_eq_false', Bool.and_eq_true, Bool.and_eq_false_iff, Bool.true_eq_false, Bool.false_eq_true, Bool.not_true, Bool.not_false, eq_self, D.len_l, wr64, not_true_eq_false, not_false_eq_true, ia, e] <;> omega) ?_)
          | (refine To.ite (fun c => ?_) (fun c => ?_) <;> ((try simp (disch := omega) only [X.den, X.dens, X.denss, D.int_i, D.boo_b, D.str_s, D.rows_l, List.getD_cons_zero, List.getD_cons_succ, List.cons_append, List.nil_append, List.append_nil, List.length_cons, List.length_nil, decide_eq_true_eq, decide_eq_false_iff_not, Bool.not_eq_true', Bool.not_eq_false', Bool.and_eq_true, Bool.and_eq_false_iff, Bool.true_eq_false, Bool.false_eq_true, Bool.not_true, Bool.not_false, eq_self, D.len_l, wr64, not_true_eq_false, not_false_eq_true, ia, e] at c) <;> (try (exfalso; omega))))
          | (refine To.ret ⟨rfl, ?_⟩; (try simp (disch := omega) only [X.den, X.dens, X.denss, D.int_i, D.boo_b, D.str_s, D.rows_l, List.getD_cons_zero, List.getD_cons_succ, List.cons_append, List.nil_append, List.append_nil, List.length_cons, List.length_nil, decide_eq_true_eq, decide_eq_false_iff_not, Bool.not_eq_true', Bool.not_eq_false', Bool.and_eq_true, Bool.and_eq_false_iff, Bool.true_eq_false, Bool.false_eq_true, Bool.not_true, Bool.not_false, eq_self, D.len_l, wr64, not_true_eq_false, not_false_eq_true, ia, e]); refine hK _ _ (by simp only [List.cons_append, List.nil_append]; first | done | rfl) ?_; clear hK; clear K)))
      all_goals
        refine To.ret ?_
        simp only [X.den, X.dens, X.denss, D.int_i, D.boo_b, D.str_s, D.rows_l, List.getD_cons_zero, List.getD_cons_succ, List.cons_append, List.nil_append, List.append_nil, List.length_cons, List.length_nil]
        simp only [List.cons.injEq, D.b.injEq, and_true]
        unfold vd vok okp
        rw [Bool.eq_iff_iff]
        simp only [hg, true_and, decide_eq_true_eq, Bool.not_eq_true', decide_eq_false_iff_not, Bool.false_eq_true, false_iff]
        first | omega | (constructor <;> (intro q; omega))
    · have e := ck_no hg
      (repeat' (first
          | (refine To.callX rfl (fun ρ2 eρ => ⟨rfl, ?_⟩); simp (disch := omega) only [X.den, X.dens, X.denss, D.int_i, D.boo_b, D.str_s, D.rows_l, List.getD_cons_zero, List.getD_cons_succ, List.cons_append, List.nil_append, List.append_nil, List.length_cons, List.length_nil, decide_eq_true_eq, decide_eq_false_iff_not, Bool.not_eq_true', Bool.not_eq_false', Bool.and_eq_true, Bool.and_eq_false_iff, Bool.true_eq_false, Bool.false_eq_true, Bool.not_true, Bool.not_false, eq_self, D.len_l, wr64, not_true_eq_false, not_false_eq_true, ia, e] at eρ; subst eρ)
          | (refine To.subK (fun K hK => ?_))
          | (refine To.need (by simp (disch := omega) only [X.den, X.dens, X.denss, D.int_i, D.boo_b, D.str_s, D.rows_l, List.getD_cons_zero, List.getD_cons_succ, List.cons_append, List.nil_append, List.append_nil, List.length_cons, List.length_nil, decide_eq_true_eq, decide_eq_false_iff_not, Bool.not_eq_true', Bool.not_eq_false', Bool.and_eq_true, Bool.and_eq_false_iff, Bool.true_eq_false, Bool.false_eq_true, Bool.not_true, Bool.not_false, eq_self, D.len_l, wr64, not_true_eq_false, not_false_eq_true, ia, e] <;> omega) ?_)
          | (refine To.ite (fun c => ?_) (fun c => ?_) <;> ((try simp (disch := omega) only [X.den, X.dens, X.denss, D.int_i, D.boo_b, D.str_s, D.rows_l, List.getD_cons_zero, List.getD_cons_succ, List.cons_append, List.nil_append, List.append_nil, List.length_cons, List.length_nil, decide_eq_true_eq, decide_eq_false_iff_not, Bool.not_eq_true', Bool.not_eq_false', Bool.and_eq_true, Bool.and_eq_false_iff, Bool.true_eq_false, Bool.false_eq_true, Bool.not_true, Bool.not_false, eq_self, D.len_l, wr64, not_true_eq_false, not_false_eq_true, ia, e] at c) <;> (try (exfalso; omega))))
          | (refine To.ret ⟨rfl, ?_⟩; (try simp (disch := omega) only [X.den, X.dens, X.denss, D.int_i, D.boo_b, D.str_s, D.rows_l, List.getD_cons_zero, List.getD_cons_succ, List.cons_append, List.nil_append, List.append_nil, List.length_cons, List.length_nil, decide_eq_true_eq, decide_eq_false_iff_not, Bool.not_eq_true', Bool.not_eq_false', Bool.and_eq_true, Bool.and_eq_false_iff, Bool.true_eq_false, Bool.false_eq_true, Bool.not_true, Bool.not_false, eq_self, D.len_l, wr64, not_true_eq_false, not_false_eq_true, ia, e]); refine hK _ _ (by simp only [List.cons_append, List.nil_append]; first | done | rfl) ?_; clear hK; clear K)))
      all_goals
        refine To.ret ?_
        simp only [X.den, X.dens, X.denss, D.int_i, D.boo_b, D.str_s, D.rows_l, List.getD_cons_zero, List.getD_cons_succ, List.cons_append, List.nil_append, List.append_nil, List.length_cons, List.length_nil]
        simp only [List.cons.injEq, D.b.injEq, and_true]
        unfold vd vok
        simp only [hg, false_and, decide_false]
theorem rVal_ok : ConOk Try.prog rVal_K VDm := con_tot follows (M := Models.on rChk_K.f CKm noM) (one_con (rChk_ok.to _) no_cons) rVal_t rfl 0 fun ds outs hl h => by
  have hl' : ds.length = 16 := hl
  match ds, hl' with
  | [D0, D1, D2, D3, D4, D5, D6, D7, D8, D9, D10, D11, D12, D13, D14, D15], _ =>
    injection h with h
    subst h
    simp only [ia, List.getD_cons_zero, List.getD_cons_succ]
    unfold rVal_T
    by_cases hg : gok D0.int D1.int D2.int D3.int D4.int D5.int D6.int D7.int D8.int
    · have e := ck_yes hg
      have hg' := hg
      unfold gok at hg'
      (repeat' (first
          | (refine To.callX rfl (fun ρ2 eρ => ⟨rfl, ?_⟩); simp (disch := omega) only [X.den, X.dens, X.denss, D.int_i, D.boo_b, D.str_s, D.rows_l, List.getD_cons_zero, List.getD_cons_succ, List.cons_append, List.nil_append, List.append_nil, List.length_cons, List.length_nil, decide_eq_true_eq, decide_eq_false_iff_not, Bool.not_eq_true', Bool.not_eq_false', Bool.and_eq_true, Bool.and_eq_false_iff, Bool.true_eq_false, Bool.false_eq_true, Bool.not_true, Bool.not_false, eq_self, D.len_l, wr64, not_true_eq_false, not_false_eq_true, ia, e] at eρ; subst eρ)
          | (refine To.subK (fun K hK => ?_))
          | (refine To.need (by simp (disch := omega) only [X.den, X.dens, X.denss, D.int_i, D.boo_b, D.str_s, D.rows_l, List.getD_cons_zero, List.getD_cons_succ, List.cons_append, List.nil_append, List.append_nil, List.length_cons, List.length_nil, decide_eq_true_eq, decide_eq_false_iff_not, Bool.not_eq_true', Bool.not_eq_false', Bool.and_eq_true, Bool.and_eq_false_iff, Bool.true_eq_false, Bool.false_eq_true, Bool.not_true, Bool.not_false, eq_self, D.len_l, wr64, not_true_eq_false, not_false_eq_true, ia, e] <;> omega) ?_)
          | (refine To.ite (fun c => ?_) (fun c => ?_) <;> ((try simp (disch := omega) only [X.den, X.dens, X.denss, D.int_i, D.boo_b, D.str_s, D.rows_l, List.getD_cons_zero, List.getD_cons_succ, List.cons_append, List.nil_append, List.append_nil, List.length_cons, List.length_nil, decide_eq_true_eq, decide_eq_false_iff_not, Bool.not_eq_true', Bool.not_eq_false', Bool.and_eq_true, Bool.and_eq_false_iff, Bool.true_eq_false, Bool.false_eq_true, Bool.not_true, Bool.not_false, eq_self, D.len_l, wr64, not_true_eq_false, not_false_eq_true, ia, e] at c) <;> (try (exfalso; omega))))
          | (refine To.ret ⟨rfl, ?_⟩; (try simp (disch := omega) only [X.den, X.dens, X.denss, D.int_i, D.boo_b, D.str_s, D.rows_l, List.getD_cons_zero, List.getD_cons_succ, List.cons_append, List.nil_append, List.append_nil, List.length_cons, List.length_nil, decide_eq_true_eq, decide_eq_false_iff_not, Bool.not_eq_true', Bool.not_eq_false', Bool.and_eq_true, Bool.and_eq_false_iff, Bool.true_eq_false, Bool.false_eq_true, Bool.not_true, Bool.not_false, eq_self, D.len_l, wr64, not_true_eq_false, not_false_eq_true, ia, e]); refine hK _ _ (by simp only [List.cons_append, List.nil_append]; first | done | rfl) ?_; clear hK; clear K)))
      all_goals
        refine To.ret ?_
        simp only [X.den, X.dens, X.denss, D.int_i, D.boo_b, D.str_s, D.rows_l, List.getD_cons_zero, List.getD_cons_succ, List.cons_append, List.nil_append, List.append_nil, List.length_cons, List.length_nil]
        simp only [List.cons.injEq, D.b.injEq, and_true]
        unfold vd vok okp
        rw [Bool.eq_iff_iff]
        simp only [hg, true_and, decide_eq_true_eq, Bool.not_eq_true', decide_eq_false_iff_not, Bool.false_eq_true, false_iff]
        first | omega | (constructor <;> (intro q; omega))
    · have e := ck_no hg
      (repeat' (first
          | (refine To.callX rfl (fun ρ2 eρ => ⟨rfl, ?_⟩); simp (disch := omega) only [X.den, X.dens, X.denss, D.int_i, D.boo_b, D.str_s, D.rows_l, List.getD_cons_zero, List.getD_cons_succ, List.cons_append, List.nil_append, List.append_nil, List.length_cons, List.length_nil, decide_eq_true_eq, decide_eq_false_iff_not, Bool.not_eq_true', Bool.not_eq_false', Bool.and_eq_true, Bool.and_eq_false_iff, Bool.true_eq_false, Bool.false_eq_true, Bool.not_true, Bool.not_false, eq_self, D.len_l, wr64, not_true_eq_false, not_false_eq_true, ia, e] at eρ; subst eρ)
          | (refine To.subK (fun K hK => ?_))
          | (refine To.need (by simp (disch := omega) only [X.den, X.dens, X.denss, D.int_i, D.boo_b, D.str_s, D.rows_l, List.getD_cons_zero, List.getD_cons_succ, List.cons_append, List.nil_append, List.append_nil, List.length_cons, List.length_nil, decide_eq_true_eq, decide_eq_false_iff_not, Bool.not_eq_true', Bool.not_eq_false', Bool.and_eq_true, Bool.and_eq_false_iff, Bool.true_eq_false, Bool.false_eq_true, Bool.not_true, Bool.not_false, eq_self, D.len_l, wr64, not_true_eq_false, not_false_eq_true, ia, e] <;> omega) ?_)
          | (refine To.ite (fun c => ?_) (fun c => ?_) <;> ((try simp (disch := omega) only [X.den, X.dens, X.denss, D.int_i, D.boo_b, D.str_s, D.rows_l, List.getD_cons_zero, List.getD_cons_succ, List.cons_append, List.nil_append, List.append_nil, List.length_cons, List.length_nil, decide_eq_true_eq, decide_eq_false_iff_not, Bool.not_eq_true', Bool.not_eq_false', Bool.and_eq_true, Bool.and_eq_false_iff, Bool.true_eq_false, Bool.false_eq_true, Bool.not_true, Bool.not_false, eq_self, D.len_l, wr64, not_true_eq_false, not_false_eq_true, ia, e] at c) <;> (try (exfalso; omega))))
          | (refine To.ret ⟨rfl, ?_⟩; (try simp (disch := omega) only [X.den, X.dens, X.denss, D.int_i, D.boo_b, D.str_s, D.rows_l, List.getD_cons_zero, List.getD_cons_succ, List.cons_append, List.nil_append, List.append_nil, List.length_cons, List.length_nil, decide_eq_true_eq, decide_eq_false_iff_not, Bool.not_eq_true', Bool.not_eq_false', Bool.and_eq_true, Bool.and_eq_false_iff, Bool.true_eq_false, Bool.false_eq_true, Bool.not_true, Bool.not_false, eq_self, D.len_l, wr64, not_true_eq_false, not_false_eq_true, ia, e]); refine hK _ _ (by simp only [List.cons_append, List.nil_append]; first | done | rfl) ?_; clear hK; clear K)))
      all_goals
        refine To.ret ?_
        simp only [X.den, X.dens, X.denss, D.int_i, D.boo_b, D.str_s, D.rows_l, List.getD_cons_zero, List.getD_cons_succ, List.cons_append, List.nil_append, List.append_nil, List.length_cons, List.length_nil]
        simp only [List.cons.injEq, D.b.injEq, and_true]
        unfold vd vok
        simp only [hg, false_and, decide_false]
def sg (a : Int) : Int := if nm a < 1800 then nm a else nm a - 3600
theorem sg_rng (a : Int) : -1800 ≤ sg a ∧ sg a ≤ 1799 := by
  have := nm_rng a
  unfold sg
  split <;> omega
theorem pSig_ok : ConOk Try.prog pSig_K (F1 sg) := con_tot follows (M := Models.on pNorm_K.f (F1 nm) noM) (one_con (pNorm_ok.to _) no_cons) pSig_t rfl 0 fun ds outs hl h => by
  obtain ⟨a', rfl⟩ := len1 hl
  injection h with h
  subst h
  simp only [ia, List.getD_cons_zero]
  have r := nm_rng a'.int
  unfold pSig_T
  (repeat' (first
      | (refine To.callX rfl (fun ρ2 eρ => ⟨rfl, ?_⟩); simp (disch := omega) only [X.den, X.dens, X.denss, D.int_i, D.boo_b, D.str_s, D.rows_l, List.getD_cons_zero, List.getD_cons_succ, List.cons_append, List.nil_append, List.append_nil, List.length_cons, List.length_nil, decide_eq_true_eq, decide_eq_false_iff_not, Bool.not_eq_true', Bool.not_eq_false', Bool.and_eq_true, Bool.and_eq_false_iff, Bool.true_eq_false, Bool.false_eq_true, Bool.not_true, Bool.not_false, eq_self, D.len_l, wr64, not_true_eq_false, not_false_eq_true, ia] at eρ; subst eρ)
      | (refine To.subK (fun K hK => ?_))
      | (refine To.need (by simp (disch := omega) only [X.den, X.dens, X.denss, D.int_i, D.boo_b, D.str_s, D.rows_l, List.getD_cons_zero, List.getD_cons_succ, List.cons_append, List.nil_append, List.append_nil, List.length_cons, List.length_nil, decide_eq_true_eq, decide_eq_false_iff_not, Bool.not_eq_true', Bool.not_eq_false', Bool.and_eq_true, Bool.and_eq_false_iff, Bool.true_eq_false, Bool.false_eq_true, Bool.not_true, Bool.not_false, eq_self, D.len_l, wr64, not_true_eq_false, not_false_eq_true, ia] <;> omega) ?_)
      | (refine To.ite (fun c => ?_) (fun c => ?_) <;> ((try simp (disch := omega) only [X.den, X.dens, X.denss, D.int_i, D.boo_b, D.str_s, D.rows_l, List.getD_cons_zero, List.getD_cons_succ, List.cons_append, List.nil_append, List.append_nil, List.length_cons, List.length_nil, decide_eq_true_eq, decide_eq_false_iff_not, Bool.not_eq_true', Bool.not_eq_false', Bool.and_eq_true, Bool.and_eq_false_iff, Bool.true_eq_false, Bool.false_eq_true, Bool.not_true, Bool.not_false, eq_self, D.len_l, wr64, not_true_eq_false, not_false_eq_true, ia] at c) <;> (try (exfalso; omega))))
      | (refine To.ret ⟨rfl, ?_⟩; (try simp (disch := omega) only [X.den, X.dens, X.denss, D.int_i, D.boo_b, D.str_s, D.rows_l, List.getD_cons_zero, List.getD_cons_succ, List.cons_append, List.nil_append, List.append_nil, List.length_cons, List.length_nil, decide_eq_true_eq, decide_eq_false_iff_not, Bool.not_eq_true', Bool.not_eq_false', Bool.and_eq_true, Bool.and_eq_false_iff, Bool.true_eq_false, Bool.false_eq_true, Bool.not_true, Bool.not_false, eq_self, D.len_l, wr64, not_true_eq_false, not_false_eq_true, ia]); refine hK _ _ (by simp only [List.cons_append, List.nil_append]; first | done | rfl) ?_; clear hK; clear K)))
  all_goals
    refine To.ret ?_
    simp (disch := omega) only [X.den, X.dens, X.denss, D.int_i, D.boo_b, D.str_s, D.rows_l, List.getD_cons_zero, List.getD_cons_succ, List.cons_append, List.nil_append, List.append_nil, List.length_cons, List.length_nil, wr64]
    unfold sg
    first | rw [if_pos (by omega)] | rw [if_neg (by omega)]
theorem rSig_ok : ConOk Try.prog rSig_K (F1 sg) := con_tot follows (M := Models.on rNorm_K.f (F1 nm) noM) (one_con (rNorm_ok.to _) no_cons) rSig_t rfl 0 fun ds outs hl h => by
  obtain ⟨a', rfl⟩ := len1 hl
  injection h with h
  subst h
  simp only [ia, List.getD_cons_zero]
  have r := nm_rng a'.int
  unfold rSig_T
  (repeat' (first
      | (refine To.callX rfl (fun ρ2 eρ => ⟨rfl, ?_⟩); simp (disch := omega) only [X.den, X.dens, X.denss, D.int_i, D.boo_b, D.str_s, D.rows_l, List.getD_cons_zero, List.getD_cons_succ, List.cons_append, List.nil_append, List.append_nil, List.length_cons, List.length_nil, decide_eq_true_eq, decide_eq_false_iff_not, Bool.not_eq_true', Bool.not_eq_false', Bool.and_eq_true, Bool.and_eq_false_iff, Bool.true_eq_false, Bool.false_eq_true, Bool.not_true, Bool.not_false, eq_self, D.len_l, wr64, not_true_eq_false, not_false_eq_true, ia] at eρ; subst eρ)
      | (refine To.subK (fun K hK => ?_))
      | (refine To.need (by simp (disch := omega) only [X.den, X.dens, X.denss, D.int_i, D.boo_b, D.str_s, D.rows_l, List.getD_cons_zero, List.getD_cons_succ, List.cons_append, List.nil_append, List.append_nil, List.length_cons, List.length_nil, decide_eq_true_eq, decide_eq_false_iff_not, Bool.not_eq_true', Bool.not_eq_false', Bool.and_eq_true, Bool.and_eq_false_iff, Bool.true_eq_false, Bool.false_eq_true, Bool.not_true, Bool.not_false, eq_self, D.len_l, wr64, not_true_eq_false, not_false_eq_true, ia] <;> omega) ?_)
      | (refine To.ite (fun c => ?_) (fun c => ?_) <;> ((try simp (disch := omega) only [X.den, X.dens, X.denss, D.int_i, D.boo_b, D.str_s, D.rows_l, List.getD_cons_zero, List.getD_cons_succ, List.cons_append, List.nil_append, List.append_nil, List.length_cons, List.length_nil, decide_eq_true_eq, decide_eq_false_iff_not, Bool.not_eq_true', Bool.not_eq_false', Bool.and_eq_true, Bool.and_eq_false_iff, Bool.true_eq_false, Bool.false_eq_true, Bool.not_true, Bool.not_false, eq_self, D.len_l, wr64, not_true_eq_false, not_false_eq_true, ia] at c) <;> (try (exfalso; omega))))
      | (refine To.ret ⟨rfl, ?_⟩; (try simp (disch := omega) only [X.den, X.dens, X.denss, D.int_i, D.boo_b, D.str_s, D.rows_l, List.getD_cons_zero, List.getD_cons_succ, List.cons_append, List.nil_append, List.append_nil, List.length_cons, List.length_nil, decide_eq_true_eq, decide_eq_false_iff_not, Bool.not_eq_true', Bool.not_eq_false', Bool.and_eq_true, Bool.and_eq_false_iff, Bool.true_eq_false, Bool.false_eq_true, Bool.not_true, Bool.not_false, eq_self, D.len_l, wr64, not_true_eq_false, not_false_eq_true, ia]); refine hK _ _ (by simp only [List.cons_append, List.nil_append]; first | done | rfl) ?_; clear hK; clear K)))
  all_goals
    refine To.ret ?_
    simp (disch := omega) only [X.den, X.dens, X.denss, D.int_i, D.boo_b, D.str_s, D.rows_l, List.getD_cons_zero, List.getD_cons_succ, List.cons_append, List.nil_append, List.append_nil, List.length_cons, List.length_nil, wr64]
    unfold sg
    first | rw [if_pos (by omega)] | rw [if_neg (by omega)]
def rdR : List D → Option (List D) := fun ds => if -1000000000000000000 ≤ ia ds 0 ∧ ia ds 0 ≤ 1000000000000000000 ∧ 1 ≤ ia ds 1 ∧ ia ds 1 ≤ 1000000000 then some [.i (hdv (ia ds 0) (ia ds 1))] else none
theorem rdR_to {n d : Int} (n0 : -1000000000000000000 ≤ n) (n1 : n ≤ 1000000000000000000) (d0 : 1 ≤ d) (d1 : d ≤ 1000000000) : ∃ l, rdR [.i n, .i d] = some l ∧ l = [.i (hdv n d)] := ⟨_, if_pos ⟨n0, n1, d0, d1⟩, rfl⟩
theorem rRound_ok : ConOk Try.prog rRound_K rdR := con_tot follows (M := noM) no_cons rRound_t rfl 0 fun ds outs hl h => by
  obtain ⟨n', d', rfl⟩ := len2 hl
  unfold rdR at h
  split at h
  · rename_i hb
    injection h with h
    subst h
    simp only [ia, List.getD_cons_zero, List.getD_cons_succ] at hb ⊢
    generalize hn : n'.int = n at *
    generalize hd : d'.int = d at *
    obtain ⟨n0, n1, d0, d1⟩ := hb
    obtain ⟨q1, q2⟩ := tdiv_down (n := 2 * n + d) (d := 2 * d) (by omega)
    obtain ⟨a1, a2⟩ := tdiv_abs (n := 2 * n + d) (d := 2 * d) (a := 2000000001000000000) (by omega) (by omega) (by omega)
    have t1 := Int.lt_tmod_of_pos (2 * n + d) (show 0 < 2 * d by omega)
    have t2 := Int.tmod_lt_of_pos (2 * n + d) (show 0 < 2 * d by omega)
    unfold rRound_T
    by_cases hneg : (2 * n + d).tmod (2 * d) < 0
    · rw [if_pos hneg] at q1 q2
      (repeat' (first
          
          | (refine To.subK (fun K hK => ?_))
          | (refine To.need (by simp (disch := omega) only [X.den, X.dens, X.denss, D.int_i, D.boo_b, D.str_s, D.rows_l, List.getD_cons_zero, List.getD_cons_succ, List.cons_append, List.nil_append, List.append_nil, List.length_cons, List.length_nil, decide_eq_true_eq, decide_eq_false_iff_not, Bool.not_eq_true', Bool.not_eq_false', Bool.and_eq_true, Bool.and_eq_false_iff, Bool.true_eq_false, Bool.false_eq_true, Bool.not_true, Bool.not_false, eq_self, D.len_l, wr64, not_true_eq_false, not_false_eq_true, hn, hd] <;> omega) ?_)
          | (refine To.ite (fun c => ?_) (fun c => ?_) <;> ((try simp (disch := omega) only [X.den, X.dens, X.denss, D.int_i, D.boo_b, D.str_s, D.rows_l, List.getD_cons_zero, List.getD_cons_succ, List.cons_append, List.nil_append, List.append_nil, List.length_cons, List.length_nil, decide_eq_true_eq, decide_eq_false_iff_not, Bool.not_eq_true', Bool.not_eq_false', Bool.and_eq_true, Bool.and_eq_false_iff, Bool.true_eq_false, Bool.false_eq_true, Bool.not_true, Bool.not_false, eq_self, D.len_l, wr64, not_true_eq_false, not_false_eq_true, hn, hd] at c) <;> (try (exfalso; omega))))
          | (refine To.ret ⟨rfl, ?_⟩; (try simp (disch := omega) only [X.den, X.dens, X.denss, D.int_i, D.boo_b, D.str_s, D.rows_l, List.getD_cons_zero, List.getD_cons_succ, List.cons_append, List.nil_append, List.append_nil, List.length_cons, List.length_nil, decide_eq_true_eq, decide_eq_false_iff_not, Bool.not_eq_true', Bool.not_eq_false', Bool.and_eq_true, Bool.and_eq_false_iff, Bool.true_eq_false, Bool.false_eq_true, Bool.not_true, Bool.not_false, eq_self, D.len_l, wr64, not_true_eq_false, not_false_eq_true, hn, hd]); refine hK _ _ (by simp only [List.cons_append, List.nil_append]; first | done | rfl) ?_; clear hK; clear K)))
      all_goals (refine To.ret ?_; simp (disch := omega) only [X.den, X.dens, X.denss, D.int_i, D.boo_b, D.str_s, D.rows_l, List.getD_cons_zero, List.getD_cons_succ, List.cons_append, List.nil_append, List.append_nil, List.length_cons, List.length_nil, hn, hd, wr64]; simp only [List.cons.injEq, D.i.injEq, and_true]; unfold hdv; omega)
    · rw [if_neg hneg] at q1 q2
      (repeat' (first
          
          | (refine To.subK (fun K hK => ?_))
          | (refine To.need (by simp (disch := omega) only [X.den, X.dens, X.denss, D.int_i, D.boo_b, D.str_s, D.rows_l, List.getD_cons_zero, List.getD_cons_succ, List.cons_append, List.nil_append, List.append_nil, List.length_cons, List.length_nil, decide_eq_true_eq, decide_eq_false_iff_not, Bool.not_eq_true', Bool.not_eq_false', Bool.and_eq_true, Bool.and_eq_false_iff, Bool.true_eq_false, Bool.false_eq_true, Bool.not_true, Bool.not_false, eq_self, D.len_l, wr64, not_true_eq_false, not_false_eq_true, hn, hd] <;> omega) ?_)
          | (refine To.ite (fun c => ?_) (fun c => ?_) <;> ((try simp (disch := omega) only [X.den, X.dens, X.denss, D.int_i, D.boo_b, D.str_s, D.rows_l, List.getD_cons_zero, List.getD_cons_succ, List.cons_append, List.nil_append, List.append_nil, List.length_cons, List.length_nil, decide_eq_true_eq, decide_eq_false_iff_not, Bool.not_eq_true', Bool.not_eq_false', Bool.and_eq_true, Bool.and_eq_false_iff, Bool.true_eq_false, Bool.false_eq_true, Bool.not_true, Bool.not_false, eq_self, D.len_l, wr64, not_true_eq_false, not_false_eq_true, hn, hd] at c) <;> (try (exfalso; omega))))
          | (refine To.ret ⟨rfl, ?_⟩; (try simp (disch := omega) only [X.den, X.dens, X.denss, D.int_i, D.boo_b, D.str_s, D.rows_l, List.getD_cons_zero, List.getD_cons_succ, List.cons_append, List.nil_append, List.append_nil, List.length_cons, List.length_nil, decide_eq_true_eq, decide_eq_false_iff_not, Bool.not_eq_true', Bool.not_eq_false', Bool.and_eq_true, Bool.and_eq_false_iff, Bool.true_eq_false, Bool.false_eq_true, Bool.not_true, Bool.not_false, eq_self, D.len_l, wr64, not_true_eq_false, not_false_eq_true, hn, hd]); refine hK _ _ (by simp only [List.cons_append, List.nil_append]; first | done | rfl) ?_; clear hK; clear K)))
      all_goals (refine To.ret ?_; simp (disch := omega) only [X.den, X.dens, X.denss, D.int_i, D.boo_b, D.str_s, D.rows_l, List.getD_cons_zero, List.getD_cons_succ, List.cons_append, List.nil_append, List.append_nil, List.length_cons, List.length_nil, hn, hd, wr64]; simp only [List.cons.injEq, D.i.injEq, and_true]; unfold hdv; omega)
  · cases h
def bok (x y tx ty h : Int) : Prop := okp x y ∧ okp tx ty ∧ 0 ≤ h ∧ h < 3600
instance (x y tx ty h : Int) : Decidable (bok x y tx ty h) := by unfold bok; infer_instance
def bdA (x y tx ty h : Int) : Int := if bok x y tx ty h then hdv ((tx - x) * cs h + (ty - y) * sn h) 10000 else 0
def bdB (x y tx ty h : Int) : Int := if bok x y tx ty h then hdv ((ty - y) * cs h - (tx - x) * sn h) 10000 else 0
def BDm : List D → Option (List D) := fun ds => some [.i (bdA (ia ds 0) (ia ds 1) (ia ds 2) (ia ds 3) (ia ds 4)), .i (bdB (ia ds 0) (ia ds 1) (ia ds 2) (ia ds 3) (ia ds 4))]
theorem bprod {u h : Int} (u0 : -200000000 ≤ u) (u1 : u ≤ 200000000) : (-2000000000000 ≤ u * cs h ∧ u * cs h ≤ 2000000000000) ∧ -2000000000000 ≤ u * sn h ∧ u * sn h ≤ 2000000000000 := by
  have a := cs_rng h
  have b := sn_rng h
  have p := mul_rng u0 u1 a.1 a.2
  have q := mul_rng u0 u1 b.1 b.2
  omega
theorem bdA_rng (x y tx ty h : Int) : -400000000 ≤ bdA x y tx ty h ∧ bdA x y tx ty h ≤ 400000000 := by
  unfold bdA
  split
  · rename_i c
    unfold bok okp at c
    have p := bprod (u := tx - x) (h := h) (by omega) (by omega)
    have q := bprod (u := ty - y) (h := h) (by omega) (by omega)
    exact hdv_btw (by omega) (by omega) (by omega)
  · omega
theorem bdB_rng (x y tx ty h : Int) : -400000000 ≤ bdB x y tx ty h ∧ bdB x y tx ty h ≤ 400000000 := by
  unfold bdB
  split
  · rename_i c
    unfold bok okp at c
    have p := bprod (u := tx - x) (h := h) (by omega) (by omega)
    have q := bprod (u := ty - y) (h := h) (by omega) (by omega)
    exact hdv_btw (by omega) (by omega) (by omega)
  · omega
def pbM : Models := Models.on pSin_K.f (F1 sn) (Models.on pCos_K.f (F1 cs) (Models.on pHalf_K.f hfR noM))
theorem pBod_ok : ConOk Try.prog pBod_K BDm := con_tot follows (M := pbM) (one_con (pSin_ok.to _) (one_con (pCos_ok.to _) (one_con (pHalf_ok.to _) no_cons))) pBod_t rfl 0 fun ds outs hl h => by
  have hl' : ds.length = 5 := hl
  match ds, hl' with
  | [D0, D1, D2, D3, D4], _ =>
    injection h with h
    subst h
    simp only [ia, List.getD_cons_zero, List.getD_cons_succ]
    unfold pBod_T
    by_cases hb : bok D0.int D1.int D2.int D3.int D4.int
    · have e1 : bdA D0.int D1.int D2.int D3.int D4.int = hdv ((D2.int - D0.int) * cs D4.int + (D3.int - D1.int) * sn D4.int) 10000 := if_pos hb
      have e2 : bdB D0.int D1.int D2.int D3.int D4.int = hdv ((D3.int - D1.int) * cs D4.int - (D2.int - D0.int) * sn D4.int) 10000 := if_pos hb
      rw [e1, e2]
      unfold bok okp at hb
      obtain ⟨⟨⟨x0, x1⟩, y0, y1⟩, ⟨⟨u0, u1⟩, v0, v1⟩, h0, h1⟩ := hb
      have p := bprod (u := D2.int - D0.int) (h := D4.int) (by omega) (by omega)
      have q := bprod (u := D3.int - D1.int) (h := D4.int) (by omega) (by omega)
      (repeat' (first
          | (refine To.callX rfl (fun ρ2 eρ => ⟨rfl, ?_⟩); simp (disch := omega) only [X.den, X.dens, X.denss, D.int_i, D.boo_b, D.str_s, D.rows_l, List.getD_cons_zero, List.getD_cons_succ, List.cons_append, List.nil_append, List.append_nil, List.length_cons, List.length_nil, decide_eq_true_eq, decide_eq_false_iff_not, Bool.not_eq_true', Bool.not_eq_false', Bool.and_eq_true, Bool.and_eq_false_iff, Bool.true_eq_false, Bool.false_eq_true, Bool.not_true, Bool.not_false, eq_self, D.len_l, wr64, not_true_eq_false, not_false_eq_true, ia] at eρ; subst eρ)
          | (refine To.subK (fun K hK => ?_))
          | (refine To.need (by simp (disch := omega) only [X.den, X.dens, X.denss, D.int_i, D.boo_b, D.str_s, D.rows_l, List.getD_cons_zero, List.getD_cons_succ, List.cons_append, List.nil_append, List.append_nil, List.length_cons, List.length_nil, decide_eq_true_eq, decide_eq_false_iff_not, Bool.not_eq_true', Bool.not_eq_false', Bool.and_eq_true, Bool.and_eq_false_iff, Bool.true_eq_false, Bool.false_eq_true, Bool.not_true, Bool.not_false, eq_self, D.len_l, wr64, not_true_eq_false, not_false_eq_true, ia] <;> omega) ?_)
          | (refine To.ite (fun c => ?_) (fun c => ?_) <;> ((try simp (disch := omega) only [X.den, X.dens, X.denss, D.int_i, D.boo_b, D.str_s, D.rows_l, List.getD_cons_zero, List.getD_cons_succ, List.cons_append, List.nil_append, List.append_nil, List.length_cons, List.length_nil, decide_eq_true_eq, decide_eq_false_iff_not, Bool.not_eq_true', Bool.not_eq_false', Bool.and_eq_true, Bool.and_eq_false_iff, Bool.true_eq_false, Bool.false_eq_true, Bool.not_true, Bool.not_false, eq_self, D.len_l, wr64, not_true_eq_false, not_false_eq_true, ia] at c) <;> (try (exfalso; omega))))
          | (refine To.ret ⟨rfl, ?_⟩; (try simp (disch := omega) only [X.den, X.dens, X.denss, D.int_i, D.boo_b, D.str_s, D.rows_l, List.getD_cons_zero, List.getD_cons_succ, List.cons_append, List.nil_append, List.append_nil, List.length_cons, List.length_nil, decide_eq_true_eq, decide_eq_false_iff_not, Bool.not_eq_true', Bool.not_eq_false', Bool.and_eq_true, Bool.and_eq_false_iff, Bool.true_eq_false, Bool.false_eq_true, Bool.not_true, Bool.not_false, eq_self, D.len_l, wr64, not_true_eq_false, not_false_eq_true, ia]); refine hK _ _ (by simp only [List.cons_append, List.nil_append]; first | done | rfl) ?_; clear hK; clear K)))
      refine To.viaK (by (try simp (disch := omega) only [X.den, X.dens, X.denss, D.int_i, D.boo_b, D.str_s, D.rows_l, List.getD_cons_zero, List.getD_cons_succ, List.cons_append, List.nil_append, List.append_nil, List.length_cons, List.length_nil, decide_eq_true_eq, decide_eq_false_iff_not, Bool.not_eq_true', Bool.not_eq_false', Bool.and_eq_true, Bool.and_eq_false_iff, Bool.true_eq_false, Bool.false_eq_true, Bool.not_true, Bool.not_false, eq_self, D.len_l, wr64, not_true_eq_false, not_false_eq_true]); exact hfR_to (n := (D2.int - D0.int) * cs D4.int + (D3.int - D1.int) * sn D4.int) (d := 10000) (by omega) (by omega) (by omega) (by omega)) ?_
      rintro _ ρ2 rfl eρ
      refine ⟨rfl, ?_⟩
      simp only [List.cons_append, List.nil_append] at eρ
      subst eρ
      refine To.viaK (by (try simp (disch := omega) only [X.den, X.dens, X.denss, D.int_i, D.boo_b, D.str_s, D.rows_l, List.getD_cons_zero, List.getD_cons_succ, List.cons_append, List.nil_append, List.append_nil, List.length_cons, List.length_nil, decide_eq_true_eq, decide_eq_false_iff_not, Bool.not_eq_true', Bool.not_eq_false', Bool.and_eq_true, Bool.and_eq_false_iff, Bool.true_eq_false, Bool.false_eq_true, Bool.not_true, Bool.not_false, eq_self, D.len_l, wr64, not_true_eq_false, not_false_eq_true]); exact hfR_to (n := (D3.int - D1.int) * cs D4.int - (D2.int - D0.int) * sn D4.int) (d := 10000) (by omega) (by omega) (by omega) (by omega)) ?_
      rintro _ ρ2 rfl eρ
      refine ⟨rfl, ?_⟩
      simp only [List.cons_append, List.nil_append] at eρ
      subst eρ
      refine To.ret ?_
      simp only [X.den, X.dens, X.denss, D.int_i, D.boo_b, D.str_s, D.rows_l, List.getD_cons_zero, List.getD_cons_succ, List.cons_append, List.nil_append, List.append_nil, List.length_cons, List.length_nil]
    · have e1 : bdA D0.int D1.int D2.int D3.int D4.int = 0 := if_neg hb
      have e2 : bdB D0.int D1.int D2.int D3.int D4.int = 0 := if_neg hb
      rw [e1, e2]
      unfold bok okp at hb
      (repeat' (first
          | (refine To.callX rfl (fun ρ2 eρ => ⟨rfl, ?_⟩); simp (disch := omega) only [X.den, X.dens, X.denss, D.int_i, D.boo_b, D.str_s, D.rows_l, List.getD_cons_zero, List.getD_cons_succ, List.cons_append, List.nil_append, List.append_nil, List.length_cons, List.length_nil, decide_eq_true_eq, decide_eq_false_iff_not, Bool.not_eq_true', Bool.not_eq_false', Bool.and_eq_true, Bool.and_eq_false_iff, Bool.true_eq_false, Bool.false_eq_true, Bool.not_true, Bool.not_false, eq_self, D.len_l, wr64, not_true_eq_false, not_false_eq_true, ia] at eρ; subst eρ)
          | (refine To.subK (fun K hK => ?_))
          | (refine To.need (by simp (disch := omega) only [X.den, X.dens, X.denss, D.int_i, D.boo_b, D.str_s, D.rows_l, List.getD_cons_zero, List.getD_cons_succ, List.cons_append, List.nil_append, List.append_nil, List.length_cons, List.length_nil, decide_eq_true_eq, decide_eq_false_iff_not, Bool.not_eq_true', Bool.not_eq_false', Bool.and_eq_true, Bool.and_eq_false_iff, Bool.true_eq_false, Bool.false_eq_true, Bool.not_true, Bool.not_false, eq_self, D.len_l, wr64, not_true_eq_false, not_false_eq_true, ia] <;> omega) ?_)
          | (refine To.ite (fun c => ?_) (fun c => ?_) <;> ((try simp (disch := omega) only [X.den, X.dens, X.denss, D.int_i, D.boo_b, D.str_s, D.rows_l, List.getD_cons_zero, List.getD_cons_succ, List.cons_append, List.nil_append, List.append_nil, List.length_cons, List.length_nil, decide_eq_true_eq, decide_eq_false_iff_not, Bool.not_eq_true', Bool.not_eq_false', Bool.and_eq_true, Bool.and_eq_false_iff, Bool.true_eq_false, Bool.false_eq_true, Bool.not_true, Bool.not_false, eq_self, D.len_l, wr64, not_true_eq_false, not_false_eq_true, ia] at c) <;> (try (exfalso; omega))))
          | (refine To.ret ⟨rfl, ?_⟩; (try simp (disch := omega) only [X.den, X.dens, X.denss, D.int_i, D.boo_b, D.str_s, D.rows_l, List.getD_cons_zero, List.getD_cons_succ, List.cons_append, List.nil_append, List.append_nil, List.length_cons, List.length_nil, decide_eq_true_eq, decide_eq_false_iff_not, Bool.not_eq_true', Bool.not_eq_false', Bool.and_eq_true, Bool.and_eq_false_iff, Bool.true_eq_false, Bool.false_eq_true, Bool.not_true, Bool.not_false, eq_self, D.len_l, wr64, not_true_eq_false, not_false_eq_true, ia]); refine hK _ _ (by simp only [List.cons_append, List.nil_append]; first | done | rfl) ?_; clear hK; clear K)))
      all_goals (refine To.ret ?_; simp only [X.den, X.dens, X.denss, D.int_i, D.boo_b, D.str_s, D.rows_l, List.getD_cons_zero, List.getD_cons_succ, List.cons_append, List.nil_append, List.append_nil, List.length_cons, List.length_nil])
def rbM : Models := Models.on rSin_K.f (F1 sn) (Models.on rCos_K.f (F1 cs) (Models.on rRound_K.f rdR noM))
theorem rBod_ok : ConOk Try.prog rBod_K BDm := con_tot follows (M := rbM) (one_con (rSin_ok.to _) (one_con (rCos_ok.to _) (one_con (rRound_ok.to _) no_cons))) rBod_t rfl 0 fun ds outs hl h => by
  have hl' : ds.length = 5 := hl
  match ds, hl' with
  | [D0, D1, D2, D3, D4], _ =>
    injection h with h
    subst h
    simp only [ia, List.getD_cons_zero, List.getD_cons_succ]
    unfold rBod_T
    by_cases hb : bok D0.int D1.int D2.int D3.int D4.int
    · have e1 : bdA D0.int D1.int D2.int D3.int D4.int = hdv ((D2.int - D0.int) * cs D4.int + (D3.int - D1.int) * sn D4.int) 10000 := if_pos hb
      have e2 : bdB D0.int D1.int D2.int D3.int D4.int = hdv ((D3.int - D1.int) * cs D4.int - (D2.int - D0.int) * sn D4.int) 10000 := if_pos hb
      rw [e1, e2]
      unfold bok okp at hb
      obtain ⟨⟨⟨x0, x1⟩, y0, y1⟩, ⟨⟨u0, u1⟩, v0, v1⟩, h0, h1⟩ := hb
      have p := bprod (u := D2.int - D0.int) (h := D4.int) (by omega) (by omega)
      have q := bprod (u := D3.int - D1.int) (h := D4.int) (by omega) (by omega)
      (repeat' (first
          | (refine To.callX rfl (fun ρ2 eρ => ⟨rfl, ?_⟩); simp (disch := omega) only [X.den, X.dens, X.denss, D.int_i, D.boo_b, D.str_s, D.rows_l, List.getD_cons_zero, List.getD_cons_succ, List.cons_append, List.nil_append, List.append_nil, List.length_cons, List.length_nil, decide_eq_true_eq, decide_eq_false_iff_not, Bool.not_eq_true', Bool.not_eq_false', Bool.and_eq_true, Bool.and_eq_false_iff, Bool.true_eq_false, Bool.false_eq_true, Bool.not_true, Bool.not_false, eq_self, D.len_l, wr64, not_true_eq_false, not_false_eq_true, ia] at eρ; subst eρ)
          | (refine To.subK (fun K hK => ?_))
          | (refine To.need (by simp (disch := omega) only [X.den, X.dens, X.denss, D.int_i, D.boo_b, D.str_s, D.rows_l, List.getD_cons_zero, List.getD_cons_succ, List.cons_append, List.nil_append, List.append_nil, List.length_cons, List.length_nil, decide_eq_true_eq, decide_eq_false_iff_not, Bool.not_eq_true', Bool.not_eq_false', Bool.and_eq_true, Bool.and_eq_false_iff, Bool.true_eq_false, Bool.false_eq_true, Bool.not_true, Bool.not_false, eq_self, D.len_l, wr64, not_true_eq_false, not_false_eq_true, ia] <;> omega) ?_)
          | (refine To.ite (fun c => ?_) (fun c => ?_) <;> ((try simp (disch := omega) only [X.den, X.dens, X.denss, D.int_i, D.boo_b, D.str_s, D.rows_l, List.getD_cons_zero, List.getD_cons_succ, List.cons_append, List.nil_append, List.append_nil, List.length_cons, List.length_nil, decide_eq_true_eq, decide_eq_false_iff_not, Bool.not_eq_true', Bool.not_eq_false', Bool.and_eq_true, Bool.and_eq_false_iff, Bool.true_eq_false, Bool.false_eq_true, Bool.not_true, Bool.not_false, eq_self, D.len_l, wr64, not_true_eq_false, not_false_eq_true, ia] at c) <;> (try (exfalso; omega))))
          | (refine To.ret ⟨rfl, ?_⟩; (try simp (disch := omega) only [X.den, X.dens, X.denss, D.int_i, D.boo_b, D.str_s, D.rows_l, List.getD_cons_zero, List.getD_cons_succ, List.cons_append, List.nil_append, List.append_nil, List.length_cons, List.length_nil, decide_eq_true_eq, decide_eq_false_iff_not, Bool.not_eq_true', Bool.not_eq_false', Bool.and_eq_true, Bool.and_eq_false_iff, Bool.true_eq_false, Bool.false_eq_true, Bool.not_true, Bool.not_false, eq_self, D.len_l, wr64, not_true_eq_false, not_false_eq_true, ia]); refine hK _ _ (by simp only [List.cons_append, List.nil_append]; first | done | rfl) ?_; clear hK; clear K)))
      refine To.viaK (by (try simp (disch := omega) only [X.den, X.dens, X.denss, D.int_i, D.boo_b, D.str_s, D.rows_l, List.getD_cons_zero, List.getD_cons_succ, List.cons_append, List.nil_append, List.append_nil, List.length_cons, List.length_nil, decide_eq_true_eq, decide_eq_false_iff_not, Bool.not_eq_true', Bool.not_eq_false', Bool.and_eq_true, Bool.and_eq_false_iff, Bool.true_eq_false, Bool.false_eq_true, Bool.not_true, Bool.not_false, eq_self, D.len_l, wr64, not_true_eq_false, not_false_eq_true]); exact rdR_to (n := (D2.int - D0.int) * cs D4.int + (D3.int - D1.int) * sn D4.int) (d := 10000) (by omega) (by omega) (by omega) (by omega)) ?_
      rintro _ ρ2 rfl eρ
      refine ⟨rfl, ?_⟩
      simp only [List.cons_append, List.nil_append] at eρ
      subst eρ
      refine To.viaK (by (try simp (disch := omega) only [X.den, X.dens, X.denss, D.int_i, D.boo_b, D.str_s, D.rows_l, List.getD_cons_zero, List.getD_cons_succ, List.cons_append, List.nil_append, List.append_nil, List.length_cons, List.length_nil, decide_eq_true_eq, decide_eq_false_iff_not, Bool.not_eq_true', Bool.not_eq_false', Bool.and_eq_true, Bool.and_eq_false_iff, Bool.true_eq_false, Bool.false_eq_true, Bool.not_true, Bool.not_false, eq_self, D.len_l, wr64, not_true_eq_false, not_false_eq_true]); exact rdR_to (n := (D3.int - D1.int) * cs D4.int - (D2.int - D0.int) * sn D4.int) (d := 10000) (by omega) (by omega) (by omega) (by omega)) ?_
      rintro _ ρ2 rfl eρ
      refine ⟨rfl, ?_⟩
      simp only [List.cons_append, List.nil_append] at eρ
      subst eρ
      refine To.ret ?_
      simp only [X.den, X.dens, X.denss, D.int_i, D.boo_b, D.str_s, D.rows_l, List.getD_cons_zero, List.getD_cons_succ, List.cons_append, List.nil_append, List.append_nil, List.length_cons, List.length_nil]
    · have e1 : bdA D0.int D1.int D2.int D3.int D4.int = 0 := if_neg hb
      have e2 : bdB D0.int D1.int D2.int D3.int D4.int = 0 := if_neg hb
      rw [e1, e2]
      unfold bok okp at hb
      (repeat' (first
          | (refine To.callX rfl (fun ρ2 eρ => ⟨rfl, ?_⟩); simp (disch := omega) only [X.den, X.dens, X.denss, D.int_i, D.boo_b, D.str_s, D.rows_l, List.getD_cons_zero, List.getD_cons_succ, List.cons_append, List.nil_append, List.append_nil, List.length_cons, List.length_nil, decide_eq_true_eq, decide_eq_false_iff_not, Bool.not_eq_true', Bool.not_eq_false', Bool.and_eq_true, Bool.and_eq_false_iff, Bool.true_eq_false, Bool.false_eq_true, Bool.not_true, Bool.not_false, eq_self, D.len_l, wr64, not_true_eq_false, not_false_eq_true, ia] at eρ; subst eρ)
          | (refine To.subK (fun K hK => ?_))
          | (refine To.need (by simp (disch := omega) only [X.den, X.dens, X.denss, D.int_i, D.boo_b, D.str_s, D.rows_l, List.getD_cons_zero, List.getD_cons_succ, List.cons_append, List.nil_append, List.append_nil, List.length_cons, List.length_nil, decide_eq_true_eq, decide_eq_false_iff_not, Bool.not_eq_true', Bool.not_eq_false', Bool.and_eq_true, Bool.and_eq_false_iff, Bool.true_eq_false, Bool.false_eq_true, Bool.not_true, Bool.not_false, eq_self, D.len_l, wr64, not_true_eq_false, not_false_eq_true, ia] <;> omega) ?_)
          | (refine To.ite (fun c => ?_) (fun c => ?_) <;> ((try simp (disch := omega) only [X.den, X.dens, X.denss, D.int_i, D.boo_b, D.str_s, D.rows_l, List.getD_cons_zero, List.getD_cons_succ, List.cons_append, List.nil_append, List.append_nil, List.length_cons, List.length_nil, decide_eq_true_eq, decide_eq_false_iff_not, Bool.not_eq_true', Bool.not_eq_false', Bool.and_eq_true, Bool.and_eq_false_iff, Bool.true_eq_false, Bool.false_eq_true, Bool.not_true, Bool.not_false, eq_self, D.len_l, wr64, not_true_eq_false, not_false_eq_true, ia] at c) <;> (try (exfalso; omega))))
          | (refine To.ret ⟨rfl, ?_⟩; (try simp (disch := omega) only [X.den, X.dens, X.denss, D.int_i, D.boo_b, D.str_s, D.rows_l, List.getD_cons_zero, List.getD_cons_succ, List.cons_append, List.nil_append, List.append_nil, List.length_cons, List.length_nil, decide_eq_true_eq, decide_eq_false_iff_not, Bool.not_eq_true', Bool.not_eq_false', Bool.and_eq_true, Bool.and_eq_false_iff, Bool.true_eq_false, Bool.false_eq_true, Bool.not_true, Bool.not_false, eq_self, D.len_l, wr64, not_true_eq_false, not_false_eq_true, ia]); refine hK _ _ (by simp only [List.cons_append, List.nil_append]; first | done | rfl) ?_; clear hK; clear K)))
      all_goals (refine To.ret ?_; simp only [X.den, X.dens, X.denss, D.int_i, D.boo_b, D.str_s, D.rows_l, List.getD_cons_zero, List.getD_cons_succ, List.cons_append, List.nil_append, List.append_nil, List.length_cons, List.length_nil])
end Go.Proofs.Ytlhnhidoljfnnaa
