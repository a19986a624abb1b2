/- Fixes that are merged, in full. -/
import Derived.Test.YtlhnhidoljfnnaaFuT
set_option linter.unusedVariables false
set_option linter.unusedSimpArgs false
namespace Go.Proofs.Ytlhnhidoljfnnaa
open Go.RowKit Fx Sh
/-- a number of a row -/
def cf (l : List (List D)) (c : Nat) (i : Int) : Int := ((D.l l).cell i c).int
theorem cf_def {l : List (List D)} {c : Nat} {i : Int} : ((D.l l).cell i c).int = cf l c i := rfl
theorem nat_suc {k : Nat} : ((k : Int) + 1) = ((k + 1 : Nat) : Int) := rfl
def okF (l : List (List D)) (i : Int) : Prop := (-100000000 ≤ cf l 1 i ∧ cf l 1 i ≤ 100000000) ∧ (-100000000 ≤ cf l 2 i ∧ cf l 2 i ≤ 100000000) ∧ 1 ≤ cf l 3 i ∧ cf l 3 i ≤ 100000
open Classical in
noncomputable def fck (l : List (List D)) : Int := if l.length = 0 then 9 else if 8 < l.length then 2 else if ∀ i : Int, 0 ≤ i → i < l.length → okF l i then 0 else 1
theorem fck_zero {l : List (List D)} (h : fck l = 0) : (1 ≤ l.length ∧ l.length ≤ 8) ∧ ∀ i : Int, 0 ≤ i → i < l.length → okF l i := by
  unfold fck at h
  split at h
  · cases h
  · split at h
    · cases h
    · split at h
      · rename_i a b c; exact ⟨by omega, c⟩
      · cases h
theorem fck_of {l : List (List D)} (h0 : 1 ≤ l.length) (h1 : l.length ≤ 8) (h2 : ∀ i : Int, 0 ≤ i → i < l.length → okF l i) : fck l = 0 := by
  unfold fck
  rw [if_neg (by omega), if_neg (by omega), if_pos h2]
def wt (e : Int) : Int := max 1 (1000000000 / (e * e))
def wtx (e : Int) : Int := if 1 ≤ e ∧ e ≤ 100000 then wt e else 0
theorem sq_err {e : Int} (e0 : 1 ≤ e) (e1 : e ≤ 100000) : 1 ≤ e * e ∧ e * e ≤ 10000000000 ∧ (1000000000 : Int).tdiv (e * e) = 1000000000 / (e * e) ∧ 0 ≤ (1000000000 : Int) / (e * e) ∧ (1000000000 : Int) / (e * e) ≤ 1000000000 := by
  have a := Int.mul_le_mul e0 e0 (by decide) (by omega)
  have b := Int.mul_le_mul e1 e1 (by omega) (by decide)
  refine ⟨by omega, by omega, Int.tdiv_eq_ediv_of_nonneg (by decide), Int.ediv_nonneg (by decide) (by omega), Int.ediv_le_self _ (by decide)⟩
theorem wt_rng {e : Int} (e0 : 1 ≤ e) (e1 : e ≤ 100000) : 1 ≤ wt e ∧ wt e ≤ 1000000000 := by
  obtain ⟨s1, s2, s3, s4, s5⟩ := sq_err e0 e1
  unfold wt
  omega
theorem weight_gen {d : D} : ∃ l, gWei_T.run noM 0 [d] = some l ∧ l = [.i (wtx d.int)] := by
  obtain ⟨e, he⟩ : ∃ e, d.int = e := ⟨_, rfl⟩
  rw [he]
  by_cases hr : 1 ≤ e ∧ e ≤ 100000
  · obtain ⟨s1, s2, s3, s4, s5⟩ := sq_err hr.1 hr.2
    refine run_to ?_
    unfold gWei_T
    (repeat' (first
        
        | (refine To.subK (fun K hK => ?_))
        | (refine To.need (by simp (disch := omega) only [X.den, X.dens, X.denss, D.int_i, D.boo_b, D.str_s, D.rows_l, List.getD_cons_zero, List.getD_cons_succ, List.cons_append, List.nil_append, List.append_nil, List.length_cons, List.length_nil, decide_eq_true_eq, decide_eq_false_iff_not, Bool.not_eq_true', Bool.not_eq_false', Bool.and_eq_true, Bool.and_eq_false_iff, Bool.true_eq_false, Bool.false_eq_true, Bool.not_true, Bool.not_false, eq_self, D.len_l, wr64, not_true_eq_false, not_false_eq_true, s3, he] <;> omega) ?_)
        | (refine To.ite (fun c => ?_) (fun c => ?_) <;> ((try simp (disch := omega) only [X.den, X.dens, X.denss, D.int_i, D.boo_b, D.str_s, D.rows_l, List.getD_cons_zero, List.getD_cons_succ, List.cons_append, List.nil_append, List.append_nil, List.length_cons, List.length_nil, decide_eq_true_eq, decide_eq_false_iff_not, Bool.not_eq_true', Bool.not_eq_false', Bool.and_eq_true, Bool.and_eq_false_iff, Bool.true_eq_false, Bool.false_eq_true, Bool.not_true, Bool.not_false, eq_self, D.len_l, wr64, not_true_eq_false, not_false_eq_true, s3, he] at c) <;> (try (exfalso; omega))))
        | (refine To.ret ⟨rfl, ?_⟩; (try simp (disch := omega) only [X.den, X.dens, X.denss, D.int_i, D.boo_b, D.str_s, D.rows_l, List.getD_cons_zero, List.getD_cons_succ, List.cons_append, List.nil_append, List.append_nil, List.length_cons, List.length_nil, decide_eq_true_eq, decide_eq_false_iff_not, Bool.not_eq_true', Bool.not_eq_false', Bool.and_eq_true, Bool.and_eq_false_iff, Bool.true_eq_false, Bool.false_eq_true, Bool.not_true, Bool.not_false, eq_self, D.len_l, wr64, not_true_eq_false, not_false_eq_true, s3, he]); refine hK _ _ (by simp only [List.cons_append, List.nil_append]; first | done | rfl) ?_; clear hK; clear K)))
    all_goals (refine To.ret ?_; simp (disch := omega) only [X.den, X.dens, X.denss, D.int_i, D.boo_b, D.str_s, D.rows_l, List.getD_cons_zero, List.getD_cons_succ, List.cons_append, List.nil_append, List.append_nil, List.length_cons, List.length_nil, wr64, s3, he, wtx, if_pos hr]; rfl)
  · refine run_to ?_
    unfold gWei_T
    refine To.joinK (fun o => o = [.b true]) ?_ ?_
    · refine To.ite (fun c => ?_) (fun c => ?_) <;> simp only [X.den, X.dens, X.denss, D.int_i, D.boo_b, D.str_s, D.rows_l, List.getD_cons_zero, List.getD_cons_succ, List.cons_append, List.nil_append, List.append_nil, List.length_cons, List.length_nil, decide_eq_true_eq, decide_eq_false_iff_not, Bool.not_eq_true', Bool.not_eq_false', Bool.and_eq_true, Bool.and_eq_false_iff, Bool.true_eq_false, Bool.false_eq_true, Bool.not_true, Bool.not_false, eq_self, he] at c
      · exact To.ret ⟨rfl, by simp only [X.den, X.dens, X.denss, D.int_i, D.boo_b, D.str_s, D.rows_l, List.getD_cons_zero, List.getD_cons_succ, List.cons_append, List.nil_append, List.append_nil, List.length_cons, List.length_nil]⟩
      · refine To.ret ⟨rfl, ?_⟩
        simp only [X.den, X.dens, X.denss, D.int_i, D.boo_b, D.str_s, D.rows_l, List.getD_cons_zero, List.getD_cons_succ, List.cons_append, List.nil_append, List.append_nil, List.length_cons, List.length_nil, he]
        rw [decide_eq_true (by omega)]
    rintro o ρ2 rfl eρ
    simp only [List.cons_append, List.nil_append] at eρ
    subst eρ
    refine To.yes rfl (To.ret ?_)
    simp only [X.den, X.dens, X.denss, D.int_i, D.boo_b, D.str_s, D.rows_l, List.getD_cons_zero, List.getD_cons_succ, List.cons_append, List.nil_append, List.append_nil, List.length_cons, List.length_nil, wtx, if_neg hr]
theorem gWei_ok : ConOk Try.prog gWei_K (gWei_T.run noM 0) := con_run follows no_cons gWei_t rfl 0
def gcM : Models := Models.on gWei_K.f (gWei_T.run noM 0) noM
theorem check_full {l : List (List D)} : ∃ o, gChk_T.run gcM 30 [.l l] = some o ∧ o = [.i (fck l)] := by
  refine run_to ?_
  unfold gChk_T
  refine To.ite (fun c => ?_) (fun c => ?_) <;> simp only [X.den, X.dens, X.denss, D.int_i, D.boo_b, D.str_s, D.rows_l, List.getD_cons_zero, List.getD_cons_succ, List.cons_append, List.nil_append, List.append_nil, List.length_cons, List.length_nil, decide_eq_true_eq, decide_eq_false_iff_not, Bool.not_eq_true', Bool.not_eq_false', Bool.and_eq_true, Bool.and_eq_false_iff, Bool.true_eq_false, Bool.false_eq_true, Bool.not_true, Bool.not_false, eq_self, D.len_l] at c
  · refine To.ret ?_
    simp only [X.den, X.dens, X.denss, D.int_i, D.boo_b, D.str_s, D.rows_l, List.getD_cons_zero, List.getD_cons_succ, List.cons_append, List.nil_append, List.append_nil, List.length_cons, List.length_nil, fck]
    rw [if_pos (by omega)]
  refine To.ite (fun c2 => ?_) (fun c2 => ?_) <;> simp only [X.den, X.dens, X.denss, D.int_i, D.boo_b, D.str_s, D.rows_l, List.getD_cons_zero, List.getD_cons_succ, List.cons_append, List.nil_append, List.append_nil, List.length_cons, List.length_nil, decide_eq_true_eq, decide_eq_false_iff_not, Bool.not_eq_true', Bool.not_eq_false', Bool.and_eq_true, Bool.and_eq_false_iff, Bool.true_eq_false, Bool.false_eq_true, Bool.not_true, Bool.not_false, eq_self, D.len_l] at c2
  · refine To.ret ?_
    simp only [X.den, X.dens, X.denss, D.int_i, D.boo_b, D.str_s, D.rows_l, List.getD_cons_zero, List.getD_cons_succ, List.cons_append, List.nil_append, List.append_nil, List.length_cons, List.length_nil, fck]
    rw [if_neg (by omega), if_pos (by omega)]
  refine To.loopK (fun m o => ∃ i, o = [.i i] ∧ 0 ≤ i ∧ i + m = l.length ∧ ∀ j : Int, 0 ≤ j → j < i → okF l j) (fun o => ∃ rest, rest.length = 12 ∧ ((o = .i 0 :: rest ∧ fck l = 1) ∨ (o = .i 1 :: rest ∧ fck l = 0))) l.length (by omega) ?_ ?_ ?_
  · exact ⟨0, by simp only [X.den, X.dens, X.denss, D.int_i, D.boo_b, D.str_s, D.rows_l, List.getD_cons_zero, List.getD_cons_succ, List.cons_append, List.nil_append, List.append_nil, List.length_cons, List.length_nil], by omega, by omega, by intro j; omega⟩
  · rintro m o ρ2 ⟨i, rfl, i0, i1, hj⟩ eρ
    simp only [List.cons_append, List.nil_append] at eρ
    subst eρ
    refine To.ite (fun c => ?_) (fun c => ?_) <;> simp only [X.den, X.dens, X.denss, D.int_i, D.boo_b, D.str_s, D.rows_l, List.getD_cons_zero, List.getD_cons_succ, List.cons_append, List.nil_append, List.append_nil, List.length_cons, List.length_nil, decide_eq_true_eq, decide_eq_false_iff_not, Bool.not_eq_true', Bool.not_eq_false', Bool.and_eq_true, Bool.and_eq_false_iff, Bool.true_eq_false, Bool.false_eq_true, Bool.not_true, Bool.not_false, eq_self, D.len_l] at c
    · refine To.need (by simp only [X.den, X.dens, X.denss, D.int_i, D.boo_b, D.str_s, D.rows_l, List.getD_cons_zero, List.getD_cons_succ, List.cons_append, List.nil_append, List.append_nil, List.length_cons, List.length_nil, decide_eq_true_eq, decide_eq_false_iff_not, Bool.not_eq_true', Bool.not_eq_false', Bool.and_eq_true, Bool.and_eq_false_iff, Bool.true_eq_false, Bool.false_eq_true, Bool.not_true, Bool.not_false, eq_self, D.len_l]; omega) ?_
      refine To.joinK (fun o => ∃ a1 a2 a3 t, o = [a1, a2, a3, .b t] ∧ (t = true ↔ ¬ okF l i)) ?_ ?_
      · refine To.joinK (fun o => ∃ u, o = [.b u] ∧ (u = true ↔ ((-100000000 ≤ cf l 1 i ∧ cf l 1 i ≤ 100000000) ∧ (-100000000 ≤ cf l 2 i ∧ cf l 2 i ≤ 100000000)))) ?_ ?_
        · refine To.joinK (fun o => ∃ z : Int, o = [.i z] ∧ (z = 0 ↔ ¬ ((-100000000 ≤ cf l 1 i ∧ cf l 1 i ≤ 100000000) ∧ (-100000000 ≤ cf l 2 i ∧ cf l 2 i ≤ 100000000)))) ?_ ?_
          · refine To.joinK (fun o => ∃ b, o = [.b b] ∧ (b = true ↔ ¬ (-100000000 ≤ cf l 1 i ∧ cf l 1 i ≤ 100000000))) ?_ ?_
            · refine To.ite (fun c => ?_) (fun c => ?_) <;> simp only [X.den, X.dens, X.denss, D.int_i, D.boo_b, D.str_s, D.rows_l, List.getD_cons_zero, List.getD_cons_succ, List.cons_append, List.nil_append, List.append_nil, List.length_cons, List.length_nil, decide_eq_true_eq, decide_eq_false_iff_not, Bool.not_eq_true', Bool.not_eq_false', Bool.and_eq_true, Bool.and_eq_false_iff, Bool.true_eq_false, Bool.false_eq_true, Bool.not_true, Bool.not_false, eq_self, cf_def] at c
              · exact To.ret ⟨rfl, true, by simp only [X.den, X.dens, X.denss, D.int_i, D.boo_b, D.str_s, D.rows_l, List.getD_cons_zero, List.getD_cons_succ, List.cons_append, List.nil_append, List.append_nil, List.length_cons, List.length_nil], by simp only [true_iff]; omega⟩
              · refine To.ret ⟨rfl, decide (100000000 < cf l 1 i), by simp only [X.den, X.dens, X.denss, D.int_i, D.boo_b, D.str_s, D.rows_l, List.getD_cons_zero, List.getD_cons_succ, List.cons_append, List.nil_append, List.append_nil, List.length_cons, List.length_nil, cf_def], ?_⟩
                rw [decide_eq_true_eq]
                omega
            rintro o ρ2 ⟨b, rfl, hb⟩ eρ
            simp only [List.cons_append, List.nil_append] at eρ
            subst eρ
            refine To.ite (fun c => ?_) (fun c => ?_) <;> simp only [X.den, X.dens, X.denss, D.int_i, D.boo_b, D.str_s, D.rows_l, List.getD_cons_zero, List.getD_cons_succ, List.cons_append, List.nil_append, List.append_nil, List.length_cons, List.length_nil] at c
            · have := hb.1 c
              exact To.ret ⟨rfl, 0, by simp only [X.den, X.dens, X.denss, D.int_i, D.boo_b, D.str_s, D.rows_l, List.getD_cons_zero, List.getD_cons_succ, List.cons_append, List.nil_append, List.append_nil, List.length_cons, List.length_nil], by simp only [true_iff, eq_self]; omega⟩
            · have h1 : (-100000000 ≤ cf l 1 i ∧ cf l 1 i ≤ 100000000) := Classical.byContradiction fun q => by rw [hb.2 q] at c; cases c
              refine To.joinK (fun o => ∃ b, o = [.b b] ∧ (b = true ↔ ¬ (-100000000 ≤ cf l 2 i ∧ cf l 2 i ≤ 100000000))) ?_ ?_
              · refine To.ite (fun c => ?_) (fun c => ?_) <;> simp only [X.den, X.dens, X.denss, D.int_i, D.boo_b, D.str_s, D.rows_l, List.getD_cons_zero, List.getD_cons_succ, List.cons_append, List.nil_append, List.append_nil, List.length_cons, List.length_nil, decide_eq_true_eq, decide_eq_false_iff_not, Bool.not_eq_true', Bool.not_eq_false', Bool.and_eq_true, Bool.and_eq_false_iff, Bool.true_eq_false, Bool.false_eq_true, Bool.not_true, Bool.not_false, eq_self, cf_def] at c
                · exact To.ret ⟨rfl, true, by simp only [X.den, X.dens, X.denss, D.int_i, D.boo_b, D.str_s, D.rows_l, List.getD_cons_zero, List.getD_cons_succ, List.cons_append, List.nil_append, List.append_nil, List.length_cons, List.length_nil], by simp only [true_iff]; omega⟩
                · refine To.ret ⟨rfl, decide (100000000 < cf l 2 i), by simp only [X.den, X.dens, X.denss, D.int_i, D.boo_b, D.str_s, D.rows_l, List.getD_cons_zero, List.getD_cons_succ, List.cons_append, List.nil_append, List.append_nil, List.length_cons, List.length_nil, cf_def], ?_⟩
                  rw [decide_eq_true_eq]
                  omega
              rintro o ρ2 ⟨b, rfl, hb⟩ eρ
              simp only [List.cons_append, List.nil_append] at eρ
              subst eρ
              refine To.ite (fun c => ?_) (fun c => ?_) <;> simp only [X.den, X.dens, X.denss, D.int_i, D.boo_b, D.str_s, D.rows_l, List.getD_cons_zero, List.getD_cons_succ, List.cons_append, List.nil_append, List.append_nil, List.length_cons, List.length_nil] at c
              · have := hb.1 c
                exact To.ret ⟨rfl, 0, by simp only [X.den, X.dens, X.denss, D.int_i, D.boo_b, D.str_s, D.rows_l, List.getD_cons_zero, List.getD_cons_succ, List.cons_append, List.nil_append, List.append_nil, List.length_cons, List.length_nil], by simp only [true_iff, eq_self]; omega⟩
              · have h2 : (-100000000 ≤ cf l 2 i ∧ cf l 2 i ≤ 100000000) := Classical.byContradiction fun q => by rw [hb.2 q] at c; cases c
                refine To.ret ⟨rfl, 1, by simp only [X.den, X.dens, X.denss, D.int_i, D.boo_b, D.str_s, D.rows_l, List.getD_cons_zero, List.getD_cons_succ, List.cons_append, List.nil_append, List.append_nil, List.length_cons, List.length_nil], ?_⟩
                constructor
                · intro q; cases q
                · intro q; exact absurd ⟨h1, h2⟩ q
          rintro o ρ2 ⟨z, rfl, hz⟩ eρ
          simp only [List.cons_append, List.nil_append] at eρ
          subst eρ
          refine To.ite (fun c => ?_) (fun c => ?_) <;> simp only [X.den, X.dens, X.denss, D.int_i, D.boo_b, D.str_s, D.rows_l, List.getD_cons_zero, List.getD_cons_succ, List.cons_append, List.nil_append, List.append_nil, List.length_cons, List.length_nil, decide_eq_true_eq, decide_eq_false_iff_not, Bool.not_eq_true', Bool.not_eq_false', Bool.and_eq_true, Bool.and_eq_false_iff, Bool.true_eq_false, Bool.false_eq_true, Bool.not_true, Bool.not_false, eq_self] at c
          · have := hz.1 c
            exact To.ret ⟨rfl, false, by simp only [X.den, X.dens, X.denss, D.int_i, D.boo_b, D.str_s, D.rows_l, List.getD_cons_zero, List.getD_cons_succ, List.cons_append, List.nil_append, List.append_nil, List.length_cons, List.length_nil], by constructor; (intro q; cases q); (intro q; exact absurd q this)⟩
          · refine To.ret ⟨rfl, true, by simp only [X.den, X.dens, X.denss, D.int_i, D.boo_b, D.str_s, D.rows_l, List.getD_cons_zero, List.getD_cons_succ, List.cons_append, List.nil_append, List.append_nil, List.length_cons, List.length_nil], ?_⟩
            have : ((-100000000 ≤ cf l 1 i ∧ cf l 1 i ≤ 100000000) ∧ (-100000000 ≤ cf l 2 i ∧ cf l 2 i ≤ 100000000)) := Classical.byContradiction fun q => c (hz.2 q)
            exact ⟨fun _ => this, fun _ => rfl⟩
        rintro o ρ2 ⟨u, rfl, hu⟩ eρ
        simp only [List.cons_append, List.nil_append] at eρ
        subst eρ
        refine To.ite (fun c => ?_) (fun c => ?_) <;> simp only [X.den, X.dens, X.denss, D.int_i, D.boo_b, D.str_s, D.rows_l, List.getD_cons_zero, List.getD_cons_succ, List.cons_append, List.nil_append, List.append_nil, List.length_cons, List.length_nil] at c
        · have hxy := hu.1 c
          refine To.viaK (by (try simp (disch := omega) only [X.den, X.dens, X.denss, D.int_i, D.boo_b, D.str_s, D.rows_l, List.getD_cons_zero, List.getD_cons_succ, List.cons_append, List.nil_append, List.append_nil, List.length_cons, List.length_nil, decide_eq_true_eq, decide_eq_false_iff_not, Bool.not_eq_true', Bool.not_eq_false', Bool.and_eq_true, Bool.and_eq_false_iff, Bool.true_eq_false, Bool.false_eq_true, Bool.not_true, Bool.not_false, eq_self, D.len_l, wr64, not_true_eq_false, not_false_eq_true]); exact weight_gen (d := (D.l l).cell i 3)) ?_
          rintro _ ρ2 rfl eρ
          refine ⟨rfl, ?_⟩
          simp only [List.cons_append, List.nil_append] at eρ
          subst eρ
          refine To.ret ⟨rfl, _, _, _, decide (wtx (cf l 3 i) = 0), by simp only [X.den, X.dens, X.denss, D.int_i, D.boo_b, D.str_s, D.rows_l, List.getD_cons_zero, List.getD_cons_succ, List.cons_append, List.nil_append, List.append_nil, List.length_cons, List.length_nil, cf_def]; rfl, ?_⟩
          rw [decide_eq_true_eq]
          unfold wtx okF
          by_cases q : 1 ≤ cf l 3 i ∧ cf l 3 i ≤ 100000
          · rw [if_pos q]
            have := wt_rng q.1 q.2
            constructor
            · intro; omega
            · intro h; exact absurd ⟨hxy.1, hxy.2, q⟩ h
          · rw [if_neg q]
            exact ⟨fun _ h => q h.2.2, fun _ => rfl⟩
        · refine To.ret ⟨rfl, _, _, _, true, by simp only [X.den, X.dens, X.denss, D.int_i, D.boo_b, D.str_s, D.rows_l, List.getD_cons_zero, List.getD_cons_succ, List.cons_append, List.nil_append, List.append_nil, List.length_cons, List.length_nil]; rfl, ?_⟩
          refine ⟨fun _ h => ?_, fun _ => rfl⟩
          rw [hu.2 ⟨h.1, h.2.1⟩] at c
          cases c
      rintro o ρ2 ⟨a1, a2, a3, t, rfl, ht⟩ eρ
      simp only [List.cons_append, List.nil_append] at eρ
      subst eρ
      refine To.ite (fun ct => ?_) (fun ct => ?_) <;> simp only [X.den, X.dens, X.denss, D.int_i, D.boo_b, D.str_s, D.rows_l, List.getD_cons_zero, List.getD_cons_succ, List.cons_append, List.nil_append, List.append_nil, List.length_cons, List.length_nil] at ct
      · refine To.ret (.inr ⟨rfl, _, ?_, .inl ⟨by simp only [X.den, X.dens, X.denss, D.int_i, D.boo_b, D.str_s, D.rows_l, List.getD_cons_zero, List.getD_cons_succ, List.cons_append, List.nil_append, List.append_nil, List.length_cons, List.length_nil]; rfl, ?_⟩⟩)
        · rfl
        · unfold fck
          rw [if_neg (by omega), if_neg (by omega), if_neg (fun h => ht.1 ct (h i i0 (by omega)))]
      · refine To.ret (.inl ⟨rfl, m - 1, by omega, ?_⟩)
        simp (disch := omega) only [X.den, X.dens, X.denss, D.int_i, D.boo_b, D.str_s, D.rows_l, List.getD_cons_zero, List.getD_cons_succ, List.cons_append, List.nil_append, List.append_nil, List.length_cons, List.length_nil, wr64]
        refine ⟨_, rfl, by omega, by omega, fun j j0 j1 => ?_⟩
        by_cases e : j = i
        · subst e
          exact Classical.byContradiction fun q => by rw [ht.2 q] at ct; cases ct
        · exact hj j j0 (by omega)
    · refine To.ret (.inr ⟨rfl, _, ?_, .inr ⟨by simp only [X.den, X.dens, X.denss, D.int_i, D.boo_b, D.str_s, D.rows_l, List.getD_cons_zero, List.getD_cons_succ, List.cons_append, List.nil_append, List.append_nil, List.length_cons, List.length_nil]; rfl, fck_of (by omega) (by omega) fun j j0 j1 => hj j j0 (by omega)⟩⟩)
      rfl
  · rintro o ρ2 ⟨rest, hr, (⟨rfl, h⟩ | ⟨rfl, h⟩)⟩ eρ
    · simp only [List.cons_append, List.nil_append] at eρ
      subst eρ
      refine ⟨by simp only [List.length_cons, hr], To.yes rfl (To.ret ?_)⟩
      simp only [X.den, X.dens, X.denss, D.int_i, D.boo_b, D.str_s, D.rows_l, List.getD_cons_zero, List.getD_cons_succ, List.cons_append, List.nil_append, List.append_nil, List.length_cons, List.length_nil, h]
    · simp only [List.cons_append, List.nil_append] at eρ
      subst eρ
      refine ⟨by simp only [List.length_cons, hr], To.no rfl (To.ret ?_)⟩
      simp only [X.den, X.dens, X.denss, D.int_i, D.boo_b, D.str_s, D.rows_l, List.getD_cons_zero, List.getD_cons_succ, List.cons_append, List.nil_append, List.append_nil, List.length_cons, List.length_nil, h]
theorem gChk_ok : ConOk Try.prog gChk_K (gChk_T.run gcM 30) := con_run follows (one_con (gWei_ok.to _) no_cons) gChk_t rfl 30
end Go.Proofs.Ytlhnhidoljfnnaa
