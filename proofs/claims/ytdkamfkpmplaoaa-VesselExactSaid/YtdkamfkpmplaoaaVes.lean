/- What a ship's motion is checked for, a step, a run. -/
import Derived.Test.YtdkamfkpmplaoaaVesT
set_option linter.unusedVariables false
set_option linter.unusedSimpArgs false
namespace Go.Proofs.Ytdkamfkpmplaoaa
open Go.RowKit Fx
/-- factors of all directions -/
def FacOk (d : D) : Prop := d.rows.length = 12 ∧ ∀ i : Nat, i < 12 → -1000 ≤ (d.cell i 0).int ∧ (d.cell i 0).int ≤ 1000
theorem factors_to (d : D) : ∃ (N : Nat) (b : Bool), wFactors_T.To noM N [d] (fun xs ρ' => X.dens ρ' xs = [.b b]) ∧ (b = true ↔ FacOk d) := by
  by_cases hf : ∀ i : Nat, (i : Int) < d.len → -1000 ≤ (d.cell i 0).int ∧ (d.cell i 0).int ≤ 1000
  · refine ⟨d.rows.length + 1, decide (d.len = 12), ?_, ?_⟩
    · unfold wFactors_T
      refine To.loop (fun m l => ∃ k : Nat, l = [.i k] ∧ (m : Int) + k = d.len) (fun l => l = [.i 1]) d.len.toNat (by unfold D.len; omega) ?_ ?_ ?_
      · exact ⟨0, rfl, by unfold D.len; omega⟩
      · rintro m l ⟨k, rfl, hk⟩
        have hl : d.len ≤ 9223372036854775807 := by unfold D.len; omega
        simp only [List.cons_append, List.nil_append]
        refine To.ite (fun c => ?_) (fun c => ?_) <;> simp only [X.den, X.dens, X.denss, D.int_i, D.boo_b, D.str_s, D.rows_l, List.getD_cons_zero, List.getD_cons_succ, List.cons_append, List.nil_append, List.append_nil, List.length_cons, List.length_nil, decide_eq_true_eq, decide_eq_false_iff_not, Bool.not_eq_true', Bool.not_eq_false', Bool.and_eq_true, Bool.and_eq_false_iff, Bool.true_eq_false, Bool.false_eq_true, Bool.not_true, Bool.not_false, eq_self] at c
        · have := hf k c
          refine To.need (by simp only [X.den, X.dens, X.denss, D.int_i, D.boo_b, D.str_s, D.rows_l, List.getD_cons_zero, List.getD_cons_succ, List.cons_append, List.nil_append, List.append_nil, List.length_cons, List.length_nil, D.len_l, Bool.and_eq_true, Bool.not_eq_true', decide_eq_true_eq, decide_eq_false_iff_not]; omega) ?_
          refine To.join (fun l => l = [.b true]) ?_ ?_
          · refine To.no (by simp only [X.den, X.dens, X.denss, D.int_i, D.boo_b, D.str_s, D.rows_l, List.getD_cons_zero, List.getD_cons_succ, List.cons_append, List.nil_append, List.append_nil, List.length_cons, List.length_nil, decide_eq_false_iff_not]; omega) ?_
            exact To.ret ⟨rfl, by simp only [X.den, X.dens, X.denss, D.int_i, D.boo_b, D.str_s, D.rows_l, List.getD_cons_zero, List.getD_cons_succ, List.cons_append, List.nil_append, List.append_nil, List.length_cons, List.length_nil]; rw [decide_eq_false (by omega)]; rfl⟩
          · rintro l rfl
            refine To.yes rfl (To.ret (.inl ⟨rfl, m - 1, by omega, k + 1, ?_, by omega⟩))
            simp only [X.den, X.dens, X.denss, D.int_i, D.boo_b, D.str_s, D.rows_l, List.getD_cons_zero, List.getD_cons_succ, List.cons_append, List.nil_append, List.append_nil, List.length_cons, List.length_nil]
            rw [wr64 (by omega) (by omega)]
            simp
        · exact To.ret (.inr ⟨rfl, rfl⟩)
      · rintro l rfl
        exact ⟨rfl, To.no rfl (To.ret (by simp only [X.den, X.dens, X.denss, D.int_i, D.boo_b, D.str_s, D.rows_l, List.getD_cons_zero, List.getD_cons_succ, List.cons_append, List.nil_append, List.append_nil, List.length_cons, List.length_nil]))⟩
    · rw [decide_eq_true_eq]
      constructor
      · intro h
        refine ⟨by unfold D.len at h; omega, fun i hi => hf i (by omega)⟩
      · intro h
        have := h.1
        unfold D.len
        omega
  · obtain ⟨k0, hk0⟩ := Classical.not_forall.1 hf
    rw [Classical.not_imp] at hk0
    refine ⟨d.rows.length + 1, false, ?_, ?_⟩
    · unfold wFactors_T
      refine To.loop (fun m l => ∃ k : Nat, l = [.i k] ∧ (m : Int) + k = d.len ∧ k ≤ k0) (fun l => l = [.i 0]) d.len.toNat (by unfold D.len; omega) ?_ ?_ ?_
      · exact ⟨0, rfl, by unfold D.len; omega, by omega⟩
      · rintro m l ⟨k, rfl, hk, hk1⟩
        have hl : d.len ≤ 9223372036854775807 := by unfold D.len; omega
        simp only [List.cons_append, List.nil_append]
        refine To.yes (by simp only [X.den, X.dens, X.denss, D.int_i, D.boo_b, D.str_s, D.rows_l, List.getD_cons_zero, List.getD_cons_succ, List.cons_append, List.nil_append, List.append_nil, List.length_cons, List.length_nil, decide_eq_true_eq, decide_eq_false_iff_not, Bool.not_eq_true', Bool.not_eq_false', Bool.and_eq_true, Bool.and_eq_false_iff, Bool.true_eq_false, Bool.false_eq_true, Bool.not_true, Bool.not_false, eq_self]; omega) ?_
        refine To.need (by simp only [X.den, X.dens, X.denss, D.int_i, D.boo_b, D.str_s, D.rows_l, List.getD_cons_zero, List.getD_cons_succ, List.cons_append, List.nil_append, List.append_nil, List.length_cons, List.length_nil, D.len_l, Bool.and_eq_true, Bool.not_eq_true', decide_eq_true_eq, decide_eq_false_iff_not]; omega) ?_
        by_cases hok : -1000 ≤ (d.cell k 0).int ∧ (d.cell k 0).int ≤ 1000
        · refine To.join (fun l => l = [.b true]) ?_ ?_
          · refine To.no (by simp only [X.den, X.dens, X.denss, D.int_i, D.boo_b, D.str_s, D.rows_l, List.getD_cons_zero, List.getD_cons_succ, List.cons_append, List.nil_append, List.append_nil, List.length_cons, List.length_nil, decide_eq_false_iff_not]; omega) ?_
            exact To.ret ⟨rfl, by simp only [X.den, X.dens, X.denss, D.int_i, D.boo_b, D.str_s, D.rows_l, List.getD_cons_zero, List.getD_cons_succ, List.cons_append, List.nil_append, List.append_nil, List.length_cons, List.length_nil]; rw [decide_eq_false (by omega)]; rfl⟩
          · rintro l rfl
            have hne : k ≠ k0 := fun e => by subst e; exact hk0.2 hok
            refine To.yes rfl (To.ret (.inl ⟨rfl, m - 1, by omega, k + 1, ?_, by omega, by omega⟩))
            simp only [X.den, X.dens, X.denss, D.int_i, D.boo_b, D.str_s, D.rows_l, List.getD_cons_zero, List.getD_cons_succ, List.cons_append, List.nil_append, List.append_nil, List.length_cons, List.length_nil]
            rw [wr64 (by omega) (by omega)]
            simp
        · refine To.join (fun l => l = [.b false]) ?_ ?_
          · refine To.ite (fun c => ?_) (fun c => ?_) <;> simp only [X.den, X.dens, X.denss, D.int_i, D.boo_b, D.str_s, D.rows_l, List.getD_cons_zero, List.getD_cons_succ, List.cons_append, List.nil_append, List.append_nil, List.length_cons, List.length_nil, decide_eq_true_eq, decide_eq_false_iff_not, Bool.not_eq_true', Bool.not_eq_false', Bool.and_eq_true, Bool.and_eq_false_iff, Bool.true_eq_false, Bool.false_eq_true, Bool.not_true, Bool.not_false, eq_self] at c
            · exact To.ret ⟨rfl, rfl⟩
            · exact To.ret ⟨rfl, by simp only [X.den, X.dens, X.denss, D.int_i, D.boo_b, D.str_s, D.rows_l, List.getD_cons_zero, List.getD_cons_succ, List.cons_append, List.nil_append, List.append_nil, List.length_cons, List.length_nil]; rw [decide_eq_true (by omega)]; rfl⟩
          · rintro l rfl
            exact To.no rfl (To.ret (.inr ⟨rfl, rfl⟩))
      · rintro l rfl
        exact ⟨rfl, To.yes rfl (To.ret (by simp only [X.den, X.dens, X.denss, D.int_i, D.boo_b, D.str_s, D.rows_l, List.getD_cons_zero, List.getD_cons_succ, List.cons_append, List.nil_append, List.append_nil, List.length_cons, List.length_nil]))⟩
    · simp only [Bool.false_eq_true, false_iff]
      rintro ⟨h1, h2⟩
      have hlen : d.len = 12 := by unfold D.len; omega
      exact hk0.2 (h2 k0 (by omega))
noncomputable instance (d : D) : Decidable (FacOk d) := Classical.propDecidable _
noncomputable def facM : List D → Option (List D)
  | [d] => some [.b (decide (FacOk d))]
  | _ => none
theorem wFactors_ok : ConOk Try.prog wFactors_K facM := con_of follows (M := noM) no_cons wFactors_t fun ds outs hl h => by
  unfold facM at h
  split at h
  · rename_i d
    injection h with h
    subst h
    obtain ⟨N, b, h1, h2⟩ := factors_to d
    refine ⟨fun i l h k => by simp [wFactors_K] at k, N, ?_⟩
    have : decide (FacOk d) = b := by
      cases b
      · exact decide_eq_false (fun h => by cases h2.2 h)
      · exact decide_eq_true (h2.1 rfl)
    rw [this]
    exact h1
  · cases h
noncomputable def wcM : Models := Models.on wFactors_K.f facM noM
theorem wCheck_ok : ConOk Try.prog wCheck_K (wCheck_T.run wcM 0) := con_run follows (one_con (wFactors_ok.to _) no_cons) wCheck_t rfl 0
def HullOk (h0 h1 h2 h3 h4 h5 h6 h7 h8 h9 h10 h11 h12 : D) : Prop := FacOk h0 ∧ FacOk h1 ∧ FacOk h2 ∧ FacOk h3 ∧ FacOk h4 ∧ FacOk h5 ∧ FacOk h6 ∧ FacOk h7 ∧ FacOk h8 ∧ 1 ≤ h9.int ∧ h9.int ≤ 1000000 ∧ 1 ≤ h10.int ∧ h10.int ≤ 1073741824 ∧ 0 ≤ h11.int ∧ h11.int ≤ h9.int ∧ 0 ≤ h12.int ∧ h12.int ≤ h10.int
theorem wCheck_to (h0 h1 h2 h3 h4 h5 h6 h7 h8 h9 h10 h11 h12 : D) : ∃ l, wCheck_T.run wcM 0 [h0, h1, h2, h3, h4, h5, h6, h7, h8, h9, h10, h11, h12] = some l ∧ ∃ e, l = [.i e] ∧ (e = 0 ↔ HullOk h0 h1 h2 h3 h4 h5 h6 h7 h8 h9 h10 h11 h12) := by
  refine run_to ?_
  unfold wCheck_T HullOk
  (repeat' (first
    | (refine To.call (l := [.b (decide (FacOk _))]) rfl rfl ?_; simp only [List.cons_append, List.nil_append])
    | (refine To.sub ?_)
    | (refine To.ite (fun c => ?_) (fun c => ?_) <;> simp only [X.den, X.dens, X.denss, D.int_i, D.boo_b, D.str_s, D.rows_l, List.getD_cons_zero, List.getD_cons_succ, List.cons_append, List.nil_append, List.append_nil, List.length_cons, List.length_nil, decide_eq_true_eq, decide_eq_false_iff_not, Bool.not_eq_true', Bool.not_eq_false', Bool.and_eq_true, Bool.and_eq_false_iff, Bool.true_eq_false, Bool.false_eq_true, Bool.not_true, Bool.not_false, eq_self] at c)
    | (refine To.ret ?_)
    | (refine ⟨rfl, ?_⟩; simp only [X.den, X.dens, X.denss, D.int_i, D.boo_b, D.str_s, D.rows_l, List.getD_cons_zero, List.getD_cons_succ, List.cons_append, List.nil_append, List.append_nil, List.length_cons, List.length_nil])
    | fail))
  all_goals
    refine ⟨_, rfl, ?_⟩
    first
      | (simp only [*, true_and, false_and, and_false, iff_false, iff_true]; omega)
      | (simp only [*, true_and, false_and, and_false, iff_false, iff_true, not_false_eq_true]; done)
      | (simp [*]; done)
      | (simp [*]; omega)
def MotOk (m0 m1 m2 m3 m4 m5 m6 : D) : Prop := 0 ≤ m0.int ∧ m0.int ≤ 2147483648 ∧ -10000000000 ≤ m1.int ∧ m1.int ≤ 10000000000 ∧ -10000000000 ≤ m2.int ∧ m2.int ≤ 10000000000 ∧ 0 ≤ m3.int ∧ m3.int < 360000 ∧ -100000 ≤ m4.int ∧ m4.int ≤ 100000 ∧ -100000 ≤ m5.int ∧ m5.int ≤ 100000 ∧ -10000 ≤ m6.int ∧ m6.int ≤ 10000
def FrcOk (f0 f1 f2 : D) : Prop := -1000000 ≤ f0.int ∧ f0.int ≤ 1000000 ∧ -1000000 ≤ f1.int ∧ f1.int ≤ 1000000 ∧ -1000000 ≤ f2.int ∧ f2.int ≤ 1000000
noncomputable def vcM : Models := Models.on wCheck_K.f (wCheck_T.run wcM 0) noM
theorem vCheck_ok : ConOk Try.prog vCheck_K (vCheck_T.run vcM 0) := con_run follows (one_con (wCheck_ok.to _) no_cons) vCheck_t rfl 0
theorem vCheck_to (h0 h1 h2 h3 h4 h5 h6 h7 h8 h9 h10 h11 h12 m0 m1 m2 m3 m4 m5 m6 f0 f1 f2 : D) : ∃ l, vCheck_T.run vcM 0 [h0, h1, h2, h3, h4, h5, h6, h7, h8, h9, h10, h11, h12, m0, m1, m2, m3, m4, m5, m6, f0, f1, f2] = some l ∧ ∃ e, l = [.i e] ∧ (e = 0 ↔ HullOk h0 h1 h2 h3 h4 h5 h6 h7 h8 h9 h10 h11 h12 ∧ MotOk m0 m1 m2 m3 m4 m5 m6 ∧ FrcOk f0 f1 f2) := by
  refine run_to ?_
  unfold vCheck_T MotOk FrcOk
  refine To.via (wCheck_to h0 h1 h2 h3 h4 h5 h6 h7 h8 h9 h10 h11 h12) ?_
  rintro l ⟨e, rfl, he⟩
  refine ⟨rfl, ?_⟩
  simp only [List.cons_append, List.nil_append]
  rw [← he]
  clear he
  (repeat' (first
    | (refine To.sub ?_)
    | (refine To.ite (fun c => ?_) (fun c => ?_) <;> simp only [X.den, X.dens, X.denss, D.int_i, D.boo_b, D.str_s, D.rows_l, List.getD_cons_zero, List.getD_cons_succ, List.cons_append, List.nil_append, List.append_nil, List.length_cons, List.length_nil, decide_eq_true_eq, decide_eq_false_iff_not, Bool.not_eq_true', Bool.not_eq_false', Bool.and_eq_true, Bool.and_eq_false_iff, Bool.true_eq_false, Bool.false_eq_true, Bool.not_true, Bool.not_false, eq_self] at c)
    | (refine To.ret ?_)
    | (refine ⟨rfl, ?_⟩; simp only [X.den, X.dens, X.denss, D.int_i, D.boo_b, D.str_s, D.rows_l, List.getD_cons_zero, List.getD_cons_succ, List.cons_append, List.nil_append, List.append_nil, List.length_cons, List.length_nil])
    | fail))
  all_goals
    refine ⟨_, rfl, ?_⟩
    first
      | omega
      | (simp only [*, true_and, false_and, and_false, iff_false, iff_true]; omega)
      | (simp [*]; omega)
      | (simp [*]; done)
noncomputable def vsM : Models := Models.on vCheck_K.f (vCheck_T.run vcM 0) (Models.on fxSin_K.f (fxSin_T.run noM 0) (Models.on fxCos_K.f (fxCos_T.run noM 0) noM))
theorem vStep_ok : ConOk Try.prog vStep_K (vStep_T.run vsM 0) := con_run follows (one_con (vCheck_ok.to _) (one_con (fxSin_ok.to _) (one_con (fxCos_ok.to _) no_cons))) vStep_t rfl 0
theorem vStep_to (h0 h1 h2 h3 h4 h5 h6 h7 h8 h9 h10 h11 h12 m0 m1 m2 m3 m4 m5 m6 f0 f1 f2 : D) : ∃ l, vStep_T.run vsM 0 [h0, h1, h2, h3, h4, h5, h6, h7, h8, h9, h10, h11, h12, m0, m1, m2, m3, m4, m5, m6, f0, f1, f2] = some l ∧ ∃ n0 n1 n2 n3 n4 n5 n6 e, l = [n0, n1, n2, n3, n4, n5, n6, .i e] ∧ (e = 0 → MotOk n0 n1 n2 n3 n4 n5 n6) := by
  refine run_to ?_
  unfold vStep_T
  refine To.via (vCheck_to h0 h1 h2 h3 h4 h5 h6 h7 h8 h9 h10 h11 h12 m0 m1 m2 m3 m4 m5 m6 f0 f1 f2) ?_
  rintro l ⟨e, rfl, he⟩
  refine ⟨rfl, ?_⟩
  simp only [List.cons_append, List.nil_append]
  refine To.ite (fun c => ?_) (fun c => ?_) <;> simp only [X.den, X.dens, X.denss, D.int_i, D.boo_b, D.str_s, D.rows_l, List.getD_cons_zero, List.getD_cons_succ, List.cons_append, List.nil_append, List.append_nil, List.length_cons, List.length_nil, decide_eq_true_eq, decide_eq_false_iff_not, Bool.not_eq_true', Bool.not_eq_false', Bool.and_eq_true, Bool.and_eq_false_iff, Bool.true_eq_false, Bool.false_eq_true, Bool.not_true, Bool.not_false, eq_self] at c
  · obtain ⟨hu, mo, fr⟩ := he.1 c
    unfold HullOk at hu
    have k9 : ((X.not (.eq (.V 9) (.N 0))).den [h0, h1, h2, h3, h4, h5, h6, h7, h8, h9, h10, h11, h12, m0, m1, m2, m3, m4, m5, m6, f0, f1, f2, .i e]).boo = true := by simp only [X.den, X.dens, X.denss, D.int_i, D.boo_b, D.str_s, D.rows_l, List.getD_cons_zero, List.getD_cons_succ, List.cons_append, List.nil_append, List.append_nil, List.length_cons, List.length_nil, decide_eq_true_eq, decide_eq_false_iff_not, Bool.not_eq_true', Bool.not_eq_false', Bool.and_eq_true, Bool.and_eq_false_iff, Bool.true_eq_false, Bool.false_eq_true, Bool.not_true, Bool.not_false, eq_self]; omega
    refine To.tot [.not (.eq (.V 9) (.N 0))] (by kernel_rfl) ?_ ?_
    · intro b hb
      simp only [List.mem_singleton] at hb
      subst hb
      exact ⟨rfl, by simp only [X.den, X.dens, X.denss, D.int_i, D.boo_b, D.str_s, D.rows_l, List.getD_cons_zero, List.getD_cons_succ, List.cons_append, List.nil_append, List.append_nil, List.length_cons, List.length_nil, decide_eq_true_eq, decide_eq_false_iff_not, Bool.not_eq_true', Bool.not_eq_false', Bool.and_eq_true, Bool.and_eq_false_iff, Bool.true_eq_false, Bool.false_eq_true, Bool.not_true, Bool.not_false, eq_self]; omega⟩
    intro l hl
    obtain ⟨r1, rfl⟩ := len1 hl
    simp only [List.cons_append, List.nil_append]
    refine To.tot [.not (.eq (.V 9) (.N 0))] (by kernel_rfl) ?_ ?_
    · intro b hb
      simp only [List.mem_singleton] at hb
      subst hb
      exact ⟨rfl, by simp only [X.den, X.dens, X.denss, D.int_i, D.boo_b, D.str_s, D.rows_l, List.getD_cons_zero, List.getD_cons_succ, List.cons_append, List.nil_append, List.append_nil, List.length_cons, List.length_nil, decide_eq_true_eq, decide_eq_false_iff_not, Bool.not_eq_true', Bool.not_eq_false', Bool.and_eq_true, Bool.and_eq_false_iff, Bool.true_eq_false, Bool.false_eq_true, Bool.not_true, Bool.not_false, eq_self]; omega⟩
    intro l hl
    obtain ⟨r2, rfl⟩ := len1 hl
    simp only [List.cons_append, List.nil_append]
    refine To.tot [.not (.eq (.V 10) (.N 0))] (by kernel_rfl) ?_ ?_
    · intro b hb
      simp only [List.mem_singleton] at hb
      subst hb
      exact ⟨rfl, by simp only [X.den, X.dens, X.denss, D.int_i, D.boo_b, D.str_s, D.rows_l, List.getD_cons_zero, List.getD_cons_succ, List.cons_append, List.nil_append, List.append_nil, List.length_cons, List.length_nil, decide_eq_true_eq, decide_eq_false_iff_not, Bool.not_eq_true', Bool.not_eq_false', Bool.and_eq_true, Bool.and_eq_false_iff, Bool.true_eq_false, Bool.false_eq_true, Bool.not_true, Bool.not_false, eq_self]; omega⟩
    intro l hl
    obtain ⟨r3, rfl⟩ := len1 hl
    simp only [List.cons_append, List.nil_append]
    refine To.tot [] (by kernel_rfl) (fun b hb => by simp at hb) fun l hl => ?_
    obtain ⟨r4, r5, rfl⟩ := len2 hl
    simp only [List.cons_append, List.nil_append]
    refine To.tot [] (by kernel_rfl) (fun b hb => by simp at hb) fun l hl => ?_
    obtain ⟨r6, r7, rfl⟩ := len2 hl
    simp only [List.cons_append, List.nil_append]
    refine To.pick1 (by simp only [X.den, X.dens, X.denss, D.int_i, D.boo_b, D.str_s, D.rows_l, List.getD_cons_zero, List.getD_cons_succ, List.cons_append, List.nil_append, List.append_nil, List.length_cons, List.length_nil]; rfl) (by simp only [X.den, X.dens, X.denss, D.int_i, D.boo_b, D.str_s, D.rows_l, List.getD_cons_zero, List.getD_cons_succ, List.cons_append, List.nil_append, List.append_nil, List.length_cons, List.length_nil]; rfl) (by simp only [X.den, X.dens, X.denss, D.int_i, D.boo_b, D.str_s, D.rows_l, List.getD_cons_zero, List.getD_cons_succ, List.cons_append, List.nil_append, List.append_nil, List.length_cons, List.length_nil]; rfl) ?_; simp only [List.cons_append, List.nil_append, norm_if]
    have q0 := Int.emod_nonneg r6.int (show (3600 : Int) ≠ 0 by decide)
    have q1 := Int.emod_lt_of_pos r6.int (show (0 : Int) < 3600 by decide)
    refine To.via (sin_to q0 q1) ?_
    rintro l ⟨sn, rfl, _, _⟩
    refine ⟨rfl, ?_⟩
    simp only [List.cons_append, List.nil_append]
    refine To.via (cos_to q0 q1) ?_
    rintro l ⟨cn, rfl, _, _⟩
    refine ⟨rfl, ?_⟩
    simp only [List.cons_append, List.nil_append]
    refine To.tot [] (by kernel_rfl) (fun b hb => by simp at hb) fun l hl => ?_
    obtain ⟨r8, r9, rfl⟩ := len2 hl
    simp only [List.cons_append, List.nil_append]
    refine To.tot [] (by kernel_rfl) (fun b hb => by simp at hb) fun l hl => ?_
    obtain ⟨r10, r11, rfl⟩ := len2 hl
    simp only [List.cons_append, List.nil_append]
    unfold MotOk
    (repeat' (first
    | (refine To.sub ?_)
    | (refine To.ite (fun c => ?_) (fun c => ?_) <;> simp only [X.den, X.dens, X.denss, D.int_i, D.boo_b, D.str_s, D.rows_l, List.getD_cons_zero, List.getD_cons_succ, List.cons_append, List.nil_append, List.append_nil, List.length_cons, List.length_nil, decide_eq_true_eq, decide_eq_false_iff_not, Bool.not_eq_true', Bool.not_eq_false', Bool.and_eq_true, Bool.and_eq_false_iff, Bool.true_eq_false, Bool.false_eq_true, Bool.not_true, Bool.not_false, eq_self] at c)
    | (refine To.ret ?_)
    | (refine ⟨rfl, ?_⟩; simp only [X.den, X.dens, X.denss, D.int_i, D.boo_b, D.str_s, D.rows_l, List.getD_cons_zero, List.getD_cons_succ, List.cons_append, List.nil_append, List.append_nil, List.length_cons, List.length_nil])
    | fail))
    all_goals
      refine ⟨_, _, _, _, _, _, _, _, rfl, ?_⟩
      first
        | (intro h; exfalso; omega)
        | (intro _; omega)
        | (intro _; simp only [X.den, X.dens, X.denss, D.int_i, D.boo_b, D.str_s, D.rows_l, List.getD_cons_zero, List.getD_cons_succ, List.cons_append, List.nil_append, List.append_nil, List.length_cons, List.length_nil]; omega)
  · refine To.ret ?_
    exact ⟨_, _, _, _, _, _, _, _, rfl, fun h => by omega⟩
end Go.Proofs.Ytdkamfkpmplaoaa
