/- Weather in full: the program's functions give what the reference's give. -/
import Derived.Test.YtdkamfkpmplaoaaWxT
set_option linter.unusedVariables false
set_option linter.unusedSimpArgs false
namespace Go.Proofs.Ytdkamfkpmplaoaa
open Go.RowKit Fx
theorem con_sub {P : Program} {k : Con} {m m' : List D → Option (List D)} (h : ConOk P k m) (s : ∀ ds outs, m' ds = some outs → m ds = some outs) : ConOk P k m' := fun w G args ds pb outs h1 h2 h3 h4 h5 => h w G args ds pb outs h1 h2 h3 (s ds outs h4) h5
theorem rwList_ok : ConOk Try.prog rwList_K facM := con_of follows (M := noM) no_cons rwList_t fun ds outs hl h => by
  unfold facM at h
  split at h
  · rename_i d
    injection h with h
    subst h
    obtain ⟨N, b, h1, h2⟩ := factors_to d
    refine ⟨fun i l h k => by simp [rwList_K] at k, N, ?_⟩
    have : decide (FacOk d) = b := by
      cases b
      · exact decide_eq_false (fun h => by cases h2.2 h)
      · exact decide_eq_true (h2.1 rfl)
    rw [this]
    exact h1
  · cases h
/-- a factor, for any list and angle -/
noncomputable def fct (d : D) (a : Int) : Int := if FacOk d ∧ 0 ≤ a ∧ a < 3600 then facV d a else 0
theorem fct_rng (d : D) (a : Int) : -1000 ≤ fct d a ∧ fct d a ≤ 1000 := by
  unfold fct
  split
  · rename_i h; exact facV_rng h.1 h.2.1 h.2.2
  · omega
noncomputable def fctM : List D → Option (List D) := fun ds => match ds with
  | [d, .i a] => some [.i (fct d a)]
  | _ => none
theorem fct_to {d : D} {a : Int} : ∃ l, fctM [d, .i a] = some l ∧ l = [.i (fct d a)] := ⟨_, rfl, rfl⟩
theorem pwFactor_ok : ConOk Try.prog wFactor_K fctM := con_sub wFactor_ok fun ds outs h => by
  unfold fctM at h
  split at h
  case h_2 => cases h
  rename_i d a
  injection h with h
  subst h
  by_cases hv : FacOk d ∧ 0 ≤ a ∧ a < 3600
  · rw [wFactor_eq hv.1 hv.2.1 hv.2.2]
    unfold fct
    rw [if_pos hv]
  · obtain ⟨l, h1, h2⟩ := run_to (M := wfM) (N := 0) (t := wFactor_T) (ds := [d, .i a]) (R := fun l => l = [.i 0]) (by
      unfold wFactor_T
      by_cases hf : FacOk d
      · have hv : ¬ (0 ≤ a ∧ a < 3600) := fun q => hv ⟨hf, q⟩
        (repeat' (first
            | (refine To.callX rfl (fun ρ2 eρ => ⟨rfl, ?_⟩); simp (disch := omega) only [X.den, X.dens, X.denss, D.int_i, D.boo_b, D.str_s, D.rows_l, List.getD_cons_zero, List.getD_cons_succ, List.cons_append, List.nil_append, List.append_nil, List.length_cons, List.length_nil, decide_eq_true_eq, decide_eq_false_iff_not, Bool.not_eq_true', Bool.not_eq_false', Bool.and_eq_true, Bool.and_eq_false_iff, Bool.true_eq_false, Bool.false_eq_true, Bool.not_true, Bool.not_false, eq_self, D.len_l, wr64, not_true_eq_false, not_false_eq_true, ia, hf, decide_true] at eρ; subst eρ)
            | (refine To.subK (fun K hK => ?_))
            | (refine To.need (by simp (disch := omega) only [X.den, X.dens, X.denss, D.int_i, D.boo_b, D.str_s, D.rows_l, List.getD_cons_zero, List.getD_cons_succ, List.cons_append, List.nil_append, List.append_nil, List.length_cons, List.length_nil, decide_eq_true_eq, decide_eq_false_iff_not, Bool.not_eq_true', Bool.not_eq_false', Bool.and_eq_true, Bool.and_eq_false_iff, Bool.true_eq_false, Bool.false_eq_true, Bool.not_true, Bool.not_false, eq_self, D.len_l, wr64, not_true_eq_false, not_false_eq_true, ia, hf, decide_true] <;> omega) ?_)
            | (refine To.ite (fun c => ?_) (fun c => ?_) <;> ((try simp (disch := omega) only [X.den, X.dens, X.denss, D.int_i, D.boo_b, D.str_s, D.rows_l, List.getD_cons_zero, List.getD_cons_succ, List.cons_append, List.nil_append, List.append_nil, List.length_cons, List.length_nil, decide_eq_true_eq, decide_eq_false_iff_not, Bool.not_eq_true', Bool.not_eq_false', Bool.and_eq_true, Bool.and_eq_false_iff, Bool.true_eq_false, Bool.false_eq_true, Bool.not_true, Bool.not_false, eq_self, D.len_l, wr64, not_true_eq_false, not_false_eq_true, ia, hf, decide_true] at c) <;> (try (exfalso; omega))))
            | (refine To.ret ⟨rfl, ?_⟩; (try simp (disch := omega) only [X.den, X.dens, X.denss, D.int_i, D.boo_b, D.str_s, D.rows_l, List.getD_cons_zero, List.getD_cons_succ, List.cons_append, List.nil_append, List.append_nil, List.length_cons, List.length_nil, decide_eq_true_eq, decide_eq_false_iff_not, Bool.not_eq_true', Bool.not_eq_false', Bool.and_eq_true, Bool.and_eq_false_iff, Bool.true_eq_false, Bool.false_eq_true, Bool.not_true, Bool.not_false, eq_self, D.len_l, wr64, not_true_eq_false, not_false_eq_true, ia, hf, decide_true]); refine hK _ _ (by simp only [List.cons_append, List.nil_append]; first | done | rfl) ?_; clear hK; clear K)))
        all_goals exact To.ret (by simp only [X.den, X.dens, X.denss, D.int_i, D.boo_b, D.str_s, D.rows_l, List.getD_cons_zero, List.getD_cons_succ, List.cons_append, List.nil_append, List.append_nil, List.length_cons, List.length_nil])
      · (repeat' (first
            | (refine To.callX rfl (fun ρ2 eρ => ⟨rfl, ?_⟩); simp (disch := omega) only [X.den, X.dens, X.denss, D.int_i, D.boo_b, D.str_s, D.rows_l, List.getD_cons_zero, List.getD_cons_succ, List.cons_append, List.nil_append, List.append_nil, List.length_cons, List.length_nil, decide_eq_true_eq, decide_eq_false_iff_not, Bool.not_eq_true', Bool.not_eq_false', Bool.and_eq_true, Bool.and_eq_false_iff, Bool.true_eq_false, Bool.false_eq_true, Bool.not_true, Bool.not_false, eq_self, D.len_l, wr64, not_true_eq_false, not_false_eq_true, ia, hf, decide_false] at eρ; subst eρ)
            | (refine To.subK (fun K hK => ?_))
            | (refine To.need (by simp (disch := omega) only [X.den, X.dens, X.denss, D.int_i, D.boo_b, D.str_s, D.rows_l, List.getD_cons_zero, List.getD_cons_succ, List.cons_append, List.nil_append, List.append_nil, List.length_cons, List.length_nil, decide_eq_true_eq, decide_eq_false_iff_not, Bool.not_eq_true', Bool.not_eq_false', Bool.and_eq_true, Bool.and_eq_false_iff, Bool.true_eq_false, Bool.false_eq_true, Bool.not_true, Bool.not_false, eq_self, D.len_l, wr64, not_true_eq_false, not_false_eq_true, ia, hf, decide_false] <;> omega) ?_)
            | (refine To.ite (fun c => ?_) (fun c => ?_) <;> ((try simp (disch := omega) only [X.den, X.dens, X.denss, D.int_i, D.boo_b, D.str_s, D.rows_l, List.getD_cons_zero, List.getD_cons_succ, List.cons_append, List.nil_append, List.append_nil, List.length_cons, List.length_nil, decide_eq_true_eq, decide_eq_false_iff_not, Bool.not_eq_true', Bool.not_eq_false', Bool.and_eq_true, Bool.and_eq_false_iff, Bool.true_eq_false, Bool.false_eq_true, Bool.not_true, Bool.not_false, eq_self, D.len_l, wr64, not_true_eq_false, not_false_eq_true, ia, hf, decide_false] at c) <;> (try (exfalso; omega))))
            | (refine To.ret ⟨rfl, ?_⟩; (try simp (disch := omega) only [X.den, X.dens, X.denss, D.int_i, D.boo_b, D.str_s, D.rows_l, List.getD_cons_zero, List.getD_cons_succ, List.cons_append, List.nil_append, List.append_nil, List.length_cons, List.length_nil, decide_eq_true_eq, decide_eq_false_iff_not, Bool.not_eq_true', Bool.not_eq_false', Bool.and_eq_true, Bool.and_eq_false_iff, Bool.true_eq_false, Bool.false_eq_true, Bool.not_true, Bool.not_false, eq_self, D.len_l, wr64, not_true_eq_false, not_false_eq_true, ia, hf, decide_false]); refine hK _ _ (by simp only [List.cons_append, List.nil_append]; first | done | rfl) ?_; clear hK; clear K)))
        all_goals exact To.ret (by simp only [X.den, X.dens, X.denss, D.int_i, D.boo_b, D.str_s, D.rows_l, List.getD_cons_zero, List.getD_cons_succ, List.cons_append, List.nil_append, List.append_nil, List.length_cons, List.length_nil]))
    rw [h1, h2]
    unfold fct
    rw [if_neg hv]
noncomputable def rndM : List D → Option (List D) := fun ds => match ds with
  | [.i n, .i d] => if -1000000000000000000 ≤ n ∧ n ≤ 1000000000000000000 ∧ 1 ≤ d ∧ d ≤ 2147483648 then some [.i (hdv n d)] else none
  | _ => none
theorem rnd_to {n d : Int} (n0 : -1000000000000000000 ≤ n) (n1 : n ≤ 1000000000000000000) (d0 : 1 ≤ d) (d1 : d ≤ 2147483648) : ∃ l, rndM [.i n, .i d] = some l ∧ l = [.i (hdv n d)] := ⟨_, if_pos ⟨n0, n1, d0, d1⟩, rfl⟩
theorem rwRound_ok : ConOk Try.prog rwRound_K rndM := con_tot follows (M := noM) no_cons rwRound_t rfl 0 fun ds outs hl h => by
  unfold rndM at h
  split at h
  case h_2 => cases h
  rename_i n d
  split at h
  case isFalse => cases h
  rename_i hb
  injection h with h
  subst h
  obtain ⟨n0, n1, d0, d1⟩ := hb
  obtain ⟨q1, q2⟩ := tdiv_down (n := 2 * n + d) (d := 2 * d) (by omega)
  obtain ⟨a1, a2⟩ := tdiv_abs (n := 2 * n + d) (d := 2 * d) (a := 2000000003000000000) (by omega) (by omega) (by omega)
  have t1 := Int.lt_tmod_of_pos (2 * n + d) (show 0 < 2 * d by omega)
  have t2 := Int.tmod_lt_of_pos (2 * n + d) (show 0 < 2 * d by omega)
  unfold rwRound_T
  by_cases hneg : (2 * n + d).tmod (2 * d) < 0
  · rw [if_pos hneg] at q1 q2
    (repeat' (first
        
        | (refine To.subK (fun K hK => ?_))
        | (refine To.need (by simp (disch := omega) only [X.den, X.dens, X.denss, D.int_i, D.boo_b, D.str_s, D.rows_l, List.getD_cons_zero, List.getD_cons_succ, List.cons_append, List.nil_append, List.append_nil, List.length_cons, List.length_nil, decide_eq_true_eq, decide_eq_false_iff_not, Bool.not_eq_true', Bool.not_eq_false', Bool.and_eq_true, Bool.and_eq_false_iff, Bool.true_eq_false, Bool.false_eq_true, Bool.not_true, Bool.not_false, eq_self, D.len_l, wr64, not_true_eq_false, not_false_eq_true] <;> omega) ?_)
        | (refine To.ite (fun c => ?_) (fun c => ?_) <;> ((try simp (disch := omega) only [X.den, X.dens, X.denss, D.int_i, D.boo_b, D.str_s, D.rows_l, List.getD_cons_zero, List.getD_cons_succ, List.cons_append, List.nil_append, List.append_nil, List.length_cons, List.length_nil, decide_eq_true_eq, decide_eq_false_iff_not, Bool.not_eq_true', Bool.not_eq_false', Bool.and_eq_true, Bool.and_eq_false_iff, Bool.true_eq_false, Bool.false_eq_true, Bool.not_true, Bool.not_false, eq_self, D.len_l, wr64, not_true_eq_false, not_false_eq_true] at c) <;> (try (exfalso; omega))))
        | (refine To.ret ⟨rfl, ?_⟩; (try simp (disch := omega) only [X.den, X.dens, X.denss, D.int_i, D.boo_b, D.str_s, D.rows_l, List.getD_cons_zero, List.getD_cons_succ, List.cons_append, List.nil_append, List.append_nil, List.length_cons, List.length_nil, decide_eq_true_eq, decide_eq_false_iff_not, Bool.not_eq_true', Bool.not_eq_false', Bool.and_eq_true, Bool.and_eq_false_iff, Bool.true_eq_false, Bool.false_eq_true, Bool.not_true, Bool.not_false, eq_self, D.len_l, wr64, not_true_eq_false, not_false_eq_true]); refine hK _ _ (by simp only [List.cons_append, List.nil_append]; first | done | rfl) ?_; clear hK; clear K)))
    all_goals (refine To.ret ?_; simp (disch := omega) only [X.den, X.dens, X.denss, D.int_i, D.boo_b, D.str_s, D.rows_l, List.getD_cons_zero, List.getD_cons_succ, List.cons_append, List.nil_append, List.append_nil, List.length_cons, List.length_nil, wr64]; simp only [List.cons.injEq, D.i.injEq, and_true]; unfold hdv; omega)
  · rw [if_neg hneg] at q1 q2
    (repeat' (first
        
        | (refine To.subK (fun K hK => ?_))
        | (refine To.need (by simp (disch := omega) only [X.den, X.dens, X.denss, D.int_i, D.boo_b, D.str_s, D.rows_l, List.getD_cons_zero, List.getD_cons_succ, List.cons_append, List.nil_append, List.append_nil, List.length_cons, List.length_nil, decide_eq_true_eq, decide_eq_false_iff_not, Bool.not_eq_true', Bool.not_eq_false', Bool.and_eq_true, Bool.and_eq_false_iff, Bool.true_eq_false, Bool.false_eq_true, Bool.not_true, Bool.not_false, eq_self, D.len_l, wr64, not_true_eq_false, not_false_eq_true] <;> omega) ?_)
        | (refine To.ite (fun c => ?_) (fun c => ?_) <;> ((try simp (disch := omega) only [X.den, X.dens, X.denss, D.int_i, D.boo_b, D.str_s, D.rows_l, List.getD_cons_zero, List.getD_cons_succ, List.cons_append, List.nil_append, List.append_nil, List.length_cons, List.length_nil, decide_eq_true_eq, decide_eq_false_iff_not, Bool.not_eq_true', Bool.not_eq_false', Bool.and_eq_true, Bool.and_eq_false_iff, Bool.true_eq_false, Bool.false_eq_true, Bool.not_true, Bool.not_false, eq_self, D.len_l, wr64, not_true_eq_false, not_false_eq_true] at c) <;> (try (exfalso; omega))))
        | (refine To.ret ⟨rfl, ?_⟩; (try simp (disch := omega) only [X.den, X.dens, X.denss, D.int_i, D.boo_b, D.str_s, D.rows_l, List.getD_cons_zero, List.getD_cons_succ, List.cons_append, List.nil_append, List.append_nil, List.length_cons, List.length_nil, decide_eq_true_eq, decide_eq_false_iff_not, Bool.not_eq_true', Bool.not_eq_false', Bool.and_eq_true, Bool.and_eq_false_iff, Bool.true_eq_false, Bool.false_eq_true, Bool.not_true, Bool.not_false, eq_self, D.len_l, wr64, not_true_eq_false, not_false_eq_true]); refine hK _ _ (by simp only [List.cons_append, List.nil_append]; first | done | rfl) ?_; clear hK; clear K)))
    all_goals (refine To.ret ?_; simp (disch := omega) only [X.den, X.dens, X.denss, D.int_i, D.boo_b, D.str_s, D.rows_l, List.getD_cons_zero, List.getD_cons_succ, List.cons_append, List.nil_append, List.append_nil, List.length_cons, List.length_nil, wr64]; simp only [List.cons.injEq, D.i.injEq, and_true]; unfold hdv; omega)
noncomputable def rfM : Models := Models.on rwList_K.f facM (Models.on rwRound_K.f rndM noM)
theorem rwFactor_ok : ConOk Try.prog rwFactor_K fctM := con_tot follows (M := rfM) (one_con (rwList_ok.to _) (one_con (rwRound_ok.to _) no_cons)) rwFactor_t rfl 0 fun ds outs hl h => by
  unfold fctM at h
  split at h
  case h_2 => cases h
  rename_i d a
  injection h with h
  subst h
  unfold rwFactor_T
  by_cases hv : FacOk d ∧ 0 ≤ a ∧ a < 3600
  · obtain ⟨hf, h0, h1⟩ := hv
    have hl : d.len = 12 := by have := hf.1; unfold D.len; omega
    obtain ⟨n0, n1⟩ := facN_rng hf h0 h1
    have wq : a.tdiv 300 = a / 300 := Int.tdiv_eq_ediv_of_nonneg h0
    have wm : a.tmod 300 = a % 300 := Int.tmod_eq_emod_of_nonneg h0
    have wk : (a / 300 + 1).tmod 12 = (a / 300 + 1) % 12 := Int.tmod_eq_emod_of_nonneg (by omega)
    have p1 := mulAbs (x := 300 - a % 300) (y := fac d (a / 300)) (a := 300) (b := 1000) (by omega) (by omega) (fac_rng hf (by omega) (by omega)).1 (fac_rng hf (by omega) (by omega)).2
    have p2 := mulAbs (x := a % 300) (y := fac d ((a / 300 + 1) % 12)) (a := 300) (b := 1000) (by omega) (by omega) (fac_rng hf (by omega) (by omega)).1 (fac_rng hf (by omega) (by omega)).2
    have f1 : (d.cell (a / 300) 0).int = fac d (a / 300) := rfl
    have f2 : (d.cell ((a / 300 + 1) % 12) 0).int = fac d ((a / 300 + 1) % 12) := rfl
    (repeat' (first
        | (refine To.callX rfl (fun ρ2 eρ => ⟨rfl, ?_⟩); simp (disch := omega) only [X.den, X.dens, X.denss, D.int_i, D.boo_b, D.str_s, D.rows_l, List.getD_cons_zero, List.getD_cons_succ, List.cons_append, List.nil_append, List.append_nil, List.length_cons, List.length_nil, decide_eq_true_eq, decide_eq_false_iff_not, Bool.not_eq_true', Bool.not_eq_false', Bool.and_eq_true, Bool.and_eq_false_iff, Bool.true_eq_false, Bool.false_eq_true, Bool.not_true, Bool.not_false, eq_self, D.len_l, wr64, not_true_eq_false, not_false_eq_true, ia, hf, decide_true, hl, wq, wm, wk, f1, f2] at eρ; subst eρ)
        | (refine To.subK (fun K hK => ?_))
        | (refine To.need (by simp (disch := omega) only [X.den, X.dens, X.denss, D.int_i, D.boo_b, D.str_s, D.rows_l, List.getD_cons_zero, List.getD_cons_succ, List.cons_append, List.nil_append, List.append_nil, List.length_cons, List.length_nil, decide_eq_true_eq, decide_eq_false_iff_not, Bool.not_eq_true', Bool.not_eq_false', Bool.and_eq_true, Bool.and_eq_false_iff, Bool.true_eq_false, Bool.false_eq_true, Bool.not_true, Bool.not_false, eq_self, D.len_l, wr64, not_true_eq_false, not_false_eq_true, ia, hf, decide_true, hl, wq, wm, wk, f1, f2] <;> omega) ?_)
        | (refine To.ite (fun c => ?_) (fun c => ?_) <;> ((try simp (disch := omega) only [X.den, X.dens, X.denss, D.int_i, D.boo_b, D.str_s, D.rows_l, List.getD_cons_zero, List.getD_cons_succ, List.cons_append, List.nil_append, List.append_nil, List.length_cons, List.length_nil, decide_eq_true_eq, decide_eq_false_iff_not, Bool.not_eq_true', Bool.not_eq_false', Bool.and_eq_true, Bool.and_eq_false_iff, Bool.true_eq_false, Bool.false_eq_true, Bool.not_true, Bool.not_false, eq_self, D.len_l, wr64, not_true_eq_false, not_false_eq_true, ia, hf, decide_true, hl, wq, wm, wk, f1, f2] at c) <;> (try (exfalso; omega))))
        | (refine To.ret ⟨rfl, ?_⟩; (try simp (disch := omega) only [X.den, X.dens, X.denss, D.int_i, D.boo_b, D.str_s, D.rows_l, List.getD_cons_zero, List.getD_cons_succ, List.cons_append, List.nil_append, List.append_nil, List.length_cons, List.length_nil, decide_eq_true_eq, decide_eq_false_iff_not, Bool.not_eq_true', Bool.not_eq_false', Bool.and_eq_true, Bool.and_eq_false_iff, Bool.true_eq_false, Bool.false_eq_true, Bool.not_true, Bool.not_false, eq_self, D.len_l, wr64, not_true_eq_false, not_false_eq_true, ia, hf, decide_true, hl, wq, wm, wk, f1, f2]); refine hK _ _ (by simp only [List.cons_append, List.nil_append]; first | done | rfl) ?_; clear hK; clear K)))
    all_goals
      refine To.viaK (by (try simp (disch := omega) only [X.den, X.dens, X.denss, D.int_i, D.boo_b, D.str_s, D.rows_l, List.getD_cons_zero, List.getD_cons_succ, List.cons_append, List.nil_append, List.append_nil, List.length_cons, List.length_nil, decide_eq_true_eq, decide_eq_false_iff_not, Bool.not_eq_true', Bool.not_eq_false', Bool.and_eq_true, Bool.and_eq_false_iff, Bool.true_eq_false, Bool.false_eq_true, Bool.not_true, Bool.not_false, eq_self, D.len_l, wr64, not_true_eq_false, not_false_eq_true, wq, wm, wk, f1, f2]); exact rnd_to (n := (300 - a % 300) * fac d (a / 300) + a % 300 * fac d ((a / 300 + 1) % 12)) (d := 300) (by omega) (by omega) (by omega) (by omega)) ?_
      rintro _ ρ2 rfl eρ
      refine ⟨rfl, ?_⟩
      simp only [List.cons_append, List.nil_append] at eρ
      subst eρ
      refine To.ret ?_
      simp only [X.den, X.dens, X.denss, D.int_i, D.boo_b, D.str_s, D.rows_l, List.getD_cons_zero, List.getD_cons_succ, List.cons_append, List.nil_append, List.append_nil, List.length_cons, List.length_nil, fct, if_pos (And.intro hf (And.intro h0 h1)), facV]
  · by_cases hf : FacOk d
    · have hv' : ¬ (0 ≤ a ∧ a < 3600) := fun q => hv ⟨hf, q⟩
      (repeat' (first
          | (refine To.callX rfl (fun ρ2 eρ => ⟨rfl, ?_⟩); simp (disch := omega) only [X.den, X.dens, X.denss, D.int_i, D.boo_b, D.str_s, D.rows_l, List.getD_cons_zero, List.getD_cons_succ, List.cons_append, List.nil_append, List.append_nil, List.length_cons, List.length_nil, decide_eq_true_eq, decide_eq_false_iff_not, Bool.not_eq_true', Bool.not_eq_false', Bool.and_eq_true, Bool.and_eq_false_iff, Bool.true_eq_false, Bool.false_eq_true, Bool.not_true, Bool.not_false, eq_self, D.len_l, wr64, not_true_eq_false, not_false_eq_true, ia, hf, decide_true] at eρ; subst eρ)
          | (refine To.subK (fun K hK => ?_))
          | (refine To.need (by simp (disch := omega) only [X.den, X.dens, X.denss, D.int_i, D.boo_b, D.str_s, D.rows_l, List.getD_cons_zero, List.getD_cons_succ, List.cons_append, List.nil_append, List.append_nil, List.length_cons, List.length_nil, decide_eq_true_eq, decide_eq_false_iff_not, Bool.not_eq_true', Bool.not_eq_false', Bool.and_eq_true, Bool.and_eq_false_iff, Bool.true_eq_false, Bool.false_eq_true, Bool.not_true, Bool.not_false, eq_self, D.len_l, wr64, not_true_eq_false, not_false_eq_true, ia, hf, decide_true] <;> omega) ?_)
          | (refine To.ite (fun c => ?_) (fun c => ?_) <;> ((try simp (disch := omega) only [X.den, X.dens, X.denss, D.int_i, D.boo_b, D.str_s, D.rows_l, List.getD_cons_zero, List.getD_cons_succ, List.cons_append, List.nil_append, List.append_nil, List.length_cons, List.length_nil, decide_eq_true_eq, decide_eq_false_iff_not, Bool.not_eq_true', Bool.not_eq_false', Bool.and_eq_true, Bool.and_eq_false_iff, Bool.true_eq_false, Bool.false_eq_true, Bool.not_true, Bool.not_false, eq_self, D.len_l, wr64, not_true_eq_false, not_false_eq_true, ia, hf, decide_true] at c) <;> (try (exfalso; omega))))
          | (refine To.ret ⟨rfl, ?_⟩; (try simp (disch := omega) only [X.den, X.dens, X.denss, D.int_i, D.boo_b, D.str_s, D.rows_l, List.getD_cons_zero, List.getD_cons_succ, List.cons_append, List.nil_append, List.append_nil, List.length_cons, List.length_nil, decide_eq_true_eq, decide_eq_false_iff_not, Bool.not_eq_true', Bool.not_eq_false', Bool.and_eq_true, Bool.and_eq_false_iff, Bool.true_eq_false, Bool.false_eq_true, Bool.not_true, Bool.not_false, eq_self, D.len_l, wr64, not_true_eq_false, not_false_eq_true, ia, hf, decide_true]); refine hK _ _ (by simp only [List.cons_append, List.nil_append]; first | done | rfl) ?_; clear hK; clear K)))
      all_goals (refine To.ret ?_; simp only [X.den, X.dens, X.denss, D.int_i, D.boo_b, D.str_s, D.rows_l, List.getD_cons_zero, List.getD_cons_succ, List.cons_append, List.nil_append, List.append_nil, List.length_cons, List.length_nil, fct, if_neg hv])
    · (repeat' (first
          | (refine To.callX rfl (fun ρ2 eρ => ⟨rfl, ?_⟩); simp (disch := omega) only [X.den, X.dens, X.denss, D.int_i, D.boo_b, D.str_s, D.rows_l, List.getD_cons_zero, List.getD_cons_succ, List.cons_append, List.nil_append, List.append_nil, List.length_cons, List.length_nil, decide_eq_true_eq, decide_eq_false_iff_not, Bool.not_eq_true', Bool.not_eq_false', Bool.and_eq_true, Bool.and_eq_false_iff, Bool.true_eq_false, Bool.false_eq_true, Bool.not_true, Bool.not_false, eq_self, D.len_l, wr64, not_true_eq_false, not_false_eq_true, ia, hf, decide_false] at eρ; subst eρ)
          | (refine To.subK (fun K hK => ?_))
          | (refine To.need (by simp (disch := omega) only [X.den, X.dens, X.denss, D.int_i, D.boo_b, D.str_s, D.rows_l, List.getD_cons_zero, List.getD_cons_succ, List.cons_append, List.nil_append, List.append_nil, List.length_cons, List.length_nil, decide_eq_true_eq, decide_eq_false_iff_not, Bool.not_eq_true', Bool.not_eq_false', Bool.and_eq_true, Bool.and_eq_false_iff, Bool.true_eq_false, Bool.false_eq_true, Bool.not_true, Bool.not_false, eq_self, D.len_l, wr64, not_true_eq_false, not_false_eq_true, ia, hf, decide_false] <;> omega) ?_)
          | (refine To.ite (fun c => ?_) (fun c => ?_) <;> ((try simp (disch := omega) only [X.den, X.dens, X.denss, D.int_i, D.boo_b, D.str_s, D.rows_l, List.getD_cons_zero, List.getD_cons_succ, List.cons_append, List.nil_append, List.append_nil, List.length_cons, List.length_nil, decide_eq_true_eq, decide_eq_false_iff_not, Bool.not_eq_true', Bool.not_eq_false', Bool.and_eq_true, Bool.and_eq_false_iff, Bool.true_eq_false, Bool.false_eq_true, Bool.not_true, Bool.not_false, eq_self, D.len_l, wr64, not_true_eq_false, not_false_eq_true, ia, hf, decide_false] at c) <;> (try (exfalso; omega))))
          | (refine To.ret ⟨rfl, ?_⟩; (try simp (disch := omega) only [X.den, X.dens, X.denss, D.int_i, D.boo_b, D.str_s, D.rows_l, List.getD_cons_zero, List.getD_cons_succ, List.cons_append, List.nil_append, List.append_nil, List.length_cons, List.length_nil, decide_eq_true_eq, decide_eq_false_iff_not, Bool.not_eq_true', Bool.not_eq_false', Bool.and_eq_true, Bool.and_eq_false_iff, Bool.true_eq_false, Bool.false_eq_true, Bool.not_true, Bool.not_false, eq_self, D.len_l, wr64, not_true_eq_false, not_false_eq_true, ia, hf, decide_false]); refine hK _ _ (by simp only [List.cons_append, List.nil_append]; first | done | rfl) ?_; clear hK; clear K)))
      all_goals (refine To.ret ?_; simp only [X.den, X.dens, X.denss, D.int_i, D.boo_b, D.str_s, D.rows_l, List.getD_cons_zero, List.getD_cons_succ, List.cons_append, List.nil_append, List.append_nil, List.length_cons, List.length_nil, fct, if_neg hv])
/-- a load, for any curve, flow and heading -/
noncomputable def lod (d0 d1 d2 d : D) (fr v hd : Int) : Int := if (FacOk d0 ∧ FacOk d1 ∧ FacOk d2) ∧ (0 ≤ fr ∧ fr < 3600) ∧ (0 ≤ v ∧ v ≤ 10000) ∧ 0 ≤ hd ∧ hd < 3600 then ldV d ((fr - hd) % 3600) v else 0
noncomputable def lodM : List D → Option (List D) := fun ds => match ds with
  | [d0, d1, d2, .i fr, .i v, .i hd] => some [.i (lod d0 d1 d2 d0 fr v hd), .i (lod d0 d1 d2 d1 fr v hd), .i (lod d0 d1 d2 d2 fr v hd)]
  | _ => none
theorem lod_to {d0 d1 d2 : D} {fr v hd : Int} : ∃ l, lodM [d0, d1, d2, .i fr, .i v, .i hd] = some l ∧ l = [.i (lod d0 d1 d2 d0 fr v hd), .i (lod d0 d1 d2 d1 fr v hd), .i (lod d0 d1 d2 d2 fr v hd)] := ⟨_, rfl, rfl⟩
theorem pwLoad_ok : ConOk Try.prog wLoad_K lodM := con_sub wLoad_ok fun ds outs h => by
  unfold lodM at h
  split at h
  case h_2 => cases h
  rename_i d0 d1 d2 fr v hd
  injection h with h
  subst h
  by_cases hv : (FacOk d0 ∧ FacOk d1 ∧ FacOk d2) ∧ (0 ≤ fr ∧ fr < 3600) ∧ (0 ≤ v ∧ v ≤ 10000) ∧ 0 ≤ hd ∧ hd < 3600
  · rw [wLoad_eq hv.1.1 hv.1.2.1 hv.1.2.2 hv.2.1.1 hv.2.1.2 hv.2.2.1.1 hv.2.2.1.2 hv.2.2.2.1 hv.2.2.2.2]
    unfold lod
    simp only [if_pos hv]
  · obtain ⟨l, h1, h2⟩ := run_to (M := wlM) (N := 0) (t := wLoad_T) (ds := [d0, d1, d2, .i fr, .i v, .i hd]) (R := fun l => l = [.i 0, .i 0, .i 0]) (by
      unfold wLoad_T
      by_cases hf : FacOk d0 ∧ FacOk d1 ∧ FacOk d2
      · have hv : ¬ ((0 ≤ fr ∧ fr < 3600) ∧ (0 ≤ v ∧ v ≤ 10000) ∧ 0 ≤ hd ∧ hd < 3600) := fun q => hv ⟨hf, q⟩
        obtain ⟨g0, g1, g2⟩ := hf
        (repeat' (first
            | (refine To.callX rfl (fun ρ2 eρ => ⟨rfl, ?_⟩); simp (disch := omega) only [X.den, X.dens, X.denss, D.int_i, D.boo_b, D.str_s, D.rows_l, List.getD_cons_zero, List.getD_cons_succ, List.cons_append, List.nil_append, List.append_nil, List.length_cons, List.length_nil, decide_eq_true_eq, decide_eq_false_iff_not, Bool.not_eq_true', Bool.not_eq_false', Bool.and_eq_true, Bool.and_eq_false_iff, Bool.true_eq_false, Bool.false_eq_true, Bool.not_true, Bool.not_false, eq_self, D.len_l, wr64, not_true_eq_false, not_false_eq_true, ia, g0, g1, g2, decide_true] at eρ; subst eρ)
            | (refine To.subK (fun K hK => ?_))
            | (refine To.need (by simp (disch := omega) only [X.den, X.dens, X.denss, D.int_i, D.boo_b, D.str_s, D.rows_l, List.getD_cons_zero, List.getD_cons_succ, List.cons_append, List.nil_append, List.append_nil, List.length_cons, List.length_nil, decide_eq_true_eq, decide_eq_false_iff_not, Bool.not_eq_true', Bool.not_eq_false', Bool.and_eq_true, Bool.and_eq_false_iff, Bool.true_eq_false, Bool.false_eq_true, Bool.not_true, Bool.not_false, eq_self, D.len_l, wr64, not_true_eq_false, not_false_eq_true, ia, g0, g1, g2, decide_true] <;> omega) ?_)
            | (refine To.ite (fun c => ?_) (fun c => ?_) <;> ((try simp (disch := omega) only [X.den, X.dens, X.denss, D.int_i, D.boo_b, D.str_s, D.rows_l, List.getD_cons_zero, List.getD_cons_succ, List.cons_append, List.nil_append, List.append_nil, List.length_cons, List.length_nil, decide_eq_true_eq, decide_eq_false_iff_not, Bool.not_eq_true', Bool.not_eq_false', Bool.and_eq_true, Bool.and_eq_false_iff, Bool.true_eq_false, Bool.false_eq_true, Bool.not_true, Bool.not_false, eq_self, D.len_l, wr64, not_true_eq_false, not_false_eq_true, ia, g0, g1, g2, decide_true] at c) <;> (try (exfalso; omega))))
            | (refine To.ret ⟨rfl, ?_⟩; (try simp (disch := omega) only [X.den, X.dens, X.denss, D.int_i, D.boo_b, D.str_s, D.rows_l, List.getD_cons_zero, List.getD_cons_succ, List.cons_append, List.nil_append, List.append_nil, List.length_cons, List.length_nil, decide_eq_true_eq, decide_eq_false_iff_not, Bool.not_eq_true', Bool.not_eq_false', Bool.and_eq_true, Bool.and_eq_false_iff, Bool.true_eq_false, Bool.false_eq_true, Bool.not_true, Bool.not_false, eq_self, D.len_l, wr64, not_true_eq_false, not_false_eq_true, ia, g0, g1, g2, decide_true]); refine hK _ _ (by simp only [List.cons_append, List.nil_append]; first | done | rfl) ?_; clear hK; clear K)))
        all_goals exact To.ret (by simp only [X.den, X.dens, X.denss, D.int_i, D.boo_b, D.str_s, D.rows_l, List.getD_cons_zero, List.getD_cons_succ, List.cons_append, List.nil_append, List.append_nil, List.length_cons, List.length_nil])
      · by_cases g0 : FacOk d0
        · by_cases g1 : FacOk d1
          · have g2 : ¬ FacOk d2 := fun g2 => hf ⟨g0, g1, g2⟩
            (repeat' (first
                | (refine To.callX rfl (fun ρ2 eρ => ⟨rfl, ?_⟩); simp (disch := omega) only [X.den, X.dens, X.denss, D.int_i, D.boo_b, D.str_s, D.rows_l, List.getD_cons_zero, List.getD_cons_succ, List.cons_append, List.nil_append, List.append_nil, List.length_cons, List.length_nil, decide_eq_true_eq, decide_eq_false_iff_not, Bool.not_eq_true', Bool.not_eq_false', Bool.and_eq_true, Bool.and_eq_false_iff, Bool.true_eq_false, Bool.false_eq_true, Bool.not_true, Bool.not_false, eq_self, D.len_l, wr64, not_true_eq_false, not_false_eq_true, ia, g0, g1, g2, decide_true, decide_false] at eρ; subst eρ)
                | (refine To.subK (fun K hK => ?_))
                | (refine To.need (by simp (disch := omega) only [X.den, X.dens, X.denss, D.int_i, D.boo_b, D.str_s, D.rows_l, List.getD_cons_zero, List.getD_cons_succ, List.cons_append, List.nil_append, List.append_nil, List.length_cons, List.length_nil, decide_eq_true_eq, decide_eq_false_iff_not, Bool.not_eq_true', Bool.not_eq_false', Bool.and_eq_true, Bool.and_eq_false_iff, Bool.true_eq_false, Bool.false_eq_true, Bool.not_true, Bool.not_false, eq_self, D.len_l, wr64, not_true_eq_false, not_false_eq_true, ia, g0, g1, g2, decide_true, decide_false] <;> omega) ?_)
                | (refine To.ite (fun c => ?_) (fun c => ?_) <;> ((try simp (disch := omega) only [X.den, X.dens, X.denss, D.int_i, D.boo_b, D.str_s, D.rows_l, List.getD_cons_zero, List.getD_cons_succ, List.cons_append, List.nil_append, List.append_nil, List.length_cons, List.length_nil, decide_eq_true_eq, decide_eq_false_iff_not, Bool.not_eq_true', Bool.not_eq_false', Bool.and_eq_true, Bool.and_eq_false_iff, Bool.true_eq_false, Bool.false_eq_true, Bool.not_true, Bool.not_false, eq_self, D.len_l, wr64, not_true_eq_false, not_false_eq_true, ia, g0, g1, g2, decide_true, decide_false] at c) <;> (try (exfalso; omega))))
                | (refine To.ret ⟨rfl, ?_⟩; (try simp (disch := omega) only [X.den, X.dens, X.denss, D.int_i, D.boo_b, D.str_s, D.rows_l, List.getD_cons_zero, List.getD_cons_succ, List.cons_append, List.nil_append, List.append_nil, List.length_cons, List.length_nil, decide_eq_true_eq, decide_eq_false_iff_not, Bool.not_eq_true', Bool.not_eq_false', Bool.and_eq_true, Bool.and_eq_false_iff, Bool.true_eq_false, Bool.false_eq_true, Bool.not_true, Bool.not_false, eq_self, D.len_l, wr64, not_true_eq_false, not_false_eq_true, ia, g0, g1, g2, decide_true, decide_false]); refine hK _ _ (by simp only [List.cons_append, List.nil_append]; first | done | rfl) ?_; clear hK; clear K)))
            all_goals exact To.ret (by simp only [X.den, X.dens, X.denss, D.int_i, D.boo_b, D.str_s, D.rows_l, List.getD_cons_zero, List.getD_cons_succ, List.cons_append, List.nil_append, List.append_nil, List.length_cons, List.length_nil])
          · (repeat' (first
                | (refine To.callX rfl (fun ρ2 eρ => ⟨rfl, ?_⟩); simp (disch := omega) only [X.den, X.dens, X.denss, D.int_i, D.boo_b, D.str_s, D.rows_l, List.getD_cons_zero, List.getD_cons_succ, List.cons_append, List.nil_append, List.append_nil, List.length_cons, List.length_nil, decide_eq_true_eq, decide_eq_false_iff_not, Bool.not_eq_true', Bool.not_eq_false', Bool.and_eq_true, Bool.and_eq_false_iff, Bool.true_eq_false, Bool.false_eq_true, Bool.not_true, Bool.not_false, eq_self, D.len_l, wr64, not_true_eq_false, not_false_eq_true, ia, g0, g1, decide_true, decide_false] at eρ; subst eρ)
                | (refine To.subK (fun K hK => ?_))
                | (refine To.need (by simp (disch := omega) only [X.den, X.dens, X.denss, D.int_i, D.boo_b, D.str_s, D.rows_l, List.getD_cons_zero, List.getD_cons_succ, List.cons_append, List.nil_append, List.append_nil, List.length_cons, List.length_nil, decide_eq_true_eq, decide_eq_false_iff_not, Bool.not_eq_true', Bool.not_eq_false', Bool.and_eq_true, Bool.and_eq_false_iff, Bool.true_eq_false, Bool.false_eq_true, Bool.not_true, Bool.not_false, eq_self, D.len_l, wr64, not_true_eq_false, not_false_eq_true, ia, g0, g1, decide_true, decide_false] <;> omega) ?_)
                | (refine To.ite (fun c => ?_) (fun c => ?_) <;> ((try simp (disch := omega) only [X.den, X.dens, X.denss, D.int_i, D.boo_b, D.str_s, D.rows_l, List.getD_cons_zero, List.getD_cons_succ, List.cons_append, List.nil_append, List.append_nil, List.length_cons, List.length_nil, decide_eq_true_eq, decide_eq_false_iff_not, Bool.not_eq_true', Bool.not_eq_false', Bool.and_eq_true, Bool.and_eq_false_iff, Bool.true_eq_false, Bool.false_eq_true, Bool.not_true, Bool.not_false, eq_self, D.len_l, wr64, not_true_eq_false, not_false_eq_true, ia, g0, g1, decide_true, decide_false] at c) <;> (try (exfalso; omega))))
                | (refine To.ret ⟨rfl, ?_⟩; (try simp (disch := omega) only [X.den, X.dens, X.denss, D.int_i, D.boo_b, D.str_s, D.rows_l, List.getD_cons_zero, List.getD_cons_succ, List.cons_append, List.nil_append, List.append_nil, List.length_cons, List.length_nil, decide_eq_true_eq, decide_eq_false_iff_not, Bool.not_eq_true', Bool.not_eq_false', Bool.and_eq_true, Bool.and_eq_false_iff, Bool.true_eq_false, Bool.false_eq_true, Bool.not_true, Bool.not_false, eq_self, D.len_l, wr64, not_true_eq_false, not_false_eq_true, ia, g0, g1, decide_true, decide_false]); refine hK _ _ (by simp only [List.cons_append, List.nil_append]; first | done | rfl) ?_; clear hK; clear K)))
            all_goals exact To.ret (by simp only [X.den, X.dens, X.denss, D.int_i, D.boo_b, D.str_s, D.rows_l, List.getD_cons_zero, List.getD_cons_succ, List.cons_append, List.nil_append, List.append_nil, List.length_cons, List.length_nil])
        · (repeat' (first
              | (refine To.callX rfl (fun ρ2 eρ => ⟨rfl, ?_⟩); simp (disch := omega) only [X.den, X.dens, X.denss, D.int_i, D.boo_b, D.str_s, D.rows_l, List.getD_cons_zero, List.getD_cons_succ, List.cons_append, List.nil_append, List.append_nil, List.length_cons, List.length_nil, decide_eq_true_eq, decide_eq_false_iff_not, Bool.not_eq_true', Bool.not_eq_false', Bool.and_eq_true, Bool.and_eq_false_iff, Bool.true_eq_false, Bool.false_eq_true, Bool.not_true, Bool.not_false, eq_self, D.len_l, wr64, not_true_eq_false, not_false_eq_true, ia, g0, decide_true, decide_false] at eρ; subst eρ)
              | (refine To.subK (fun K hK => ?_))
              | (refine To.need (by simp (disch := omega) only [X.den, X.dens, X.denss, D.int_i, D.boo_b, D.str_s, D.rows_l, List.getD_cons_zero, List.getD_cons_succ, List.cons_append, List.nil_append, List.append_nil, List.length_cons, List.length_nil, decide_eq_true_eq, decide_eq_false_iff_not, Bool.not_eq_true', Bool.not_eq_false', Bool.and_eq_true, Bool.and_eq_false_iff, Bool.true_eq_false, Bool.false_eq_true, Bool.not_true, Bool.not_false, eq_self, D.len_l, wr64, not_true_eq_false, not_false_eq_true, ia, g0, decide_true, decide_false] <;> omega) ?_)
              | (refine To.ite (fun c => ?_) (fun c => ?_) <;> ((try simp (disch := omega) only [X.den, X.dens, X.denss, D.int_i, D.boo_b, D.str_s, D.rows_l, List.getD_cons_zero, List.getD_cons_succ, List.cons_append, List.nil_append, List.append_nil, List.length_cons, List.length_nil, decide_eq_true_eq, decide_eq_false_iff_not, Bool.not_eq_true', Bool.not_eq_false', Bool.and_eq_true, Bool.and_eq_false_iff, Bool.true_eq_false, Bool.false_eq_true, Bool.not_true, Bool.not_false, eq_self, D.len_l, wr64, not_true_eq_false, not_false_eq_true, ia, g0, decide_true, decide_false] at c) <;> (try (exfalso; omega))))
              | (refine To.ret ⟨rfl, ?_⟩; (try simp (disch := omega) only [X.den, X.dens, X.denss, D.int_i, D.boo_b, D.str_s, D.rows_l, List.getD_cons_zero, List.getD_cons_succ, List.cons_append, List.nil_append, List.append_nil, List.length_cons, List.length_nil, decide_eq_true_eq, decide_eq_false_iff_not, Bool.not_eq_true', Bool.not_eq_false', Bool.and_eq_true, Bool.and_eq_false_iff, Bool.true_eq_false, Bool.false_eq_true, Bool.not_true, Bool.not_false, eq_self, D.len_l, wr64, not_true_eq_false, not_false_eq_true, ia, g0, decide_true, decide_false]); refine hK _ _ (by simp only [List.cons_append, List.nil_append]; first | done | rfl) ?_; clear hK; clear K)))
          all_goals exact To.ret (by simp only [X.den, X.dens, X.denss, D.int_i, D.boo_b, D.str_s, D.rows_l, List.getD_cons_zero, List.getD_cons_succ, List.cons_append, List.nil_append, List.append_nil, List.length_cons, List.length_nil]))
    rw [h1, h2]
    unfold lod
    simp only [if_neg hv]
noncomputable def rlM : Models := Models.on rwList_K.f facM (Models.on rwFactor_K.f fctM (Models.on rwRound_K.f rndM noM))
theorem rwLoad_ok : ConOk Try.prog rwLoad_K lodM := con_tot follows (M := rlM) (one_con (rwList_ok.to _) (one_con (rwFactor_ok.to _) (one_con (rwRound_ok.to _) no_cons))) rwLoad_t rfl 0 fun ds outs hl h => by
  unfold lodM at h
  split at h
  case h_2 => cases h
  rename_i d0 d1 d2 fr v hd
  injection h with h
  subst h
  unfold rwLoad_T
  by_cases hv : (FacOk d0 ∧ FacOk d1 ∧ FacOk d2) ∧ (0 ≤ fr ∧ fr < 3600) ∧ (0 ≤ v ∧ v ≤ 10000) ∧ 0 ≤ hd ∧ hd < 3600
  · have hv' := hv
    obtain ⟨⟨g0, g1, g2⟩, b1, b2, b3⟩ := hv'
    have wa : (fr - hd + 3600).tmod 3600 = (fr - hd) % 3600 := by rw [Int.tmod_eq_emod_of_nonneg (by omega)]; omega
    have vv : 0 ≤ v * v ∧ v * v ≤ 100000000 := by
      have := mulAbs (x := v) (y := v) (a := 10000) (b := 10000) (by omega) (by omega) (by omega) (by omega)
      exact ⟨Int.mul_nonneg b2.1 b2.1, by omega⟩
    have pr : ∀ d, FacOk d → fct d ((fr - hd) % 3600) = facV d ((fr - hd) % 3600) ∧ -100000000000 ≤ facV d ((fr - hd) % 3600) * (v * v) ∧ facV d ((fr - hd) % 3600) * (v * v) ≤ 100000000000 := fun d g => by
      have r := facV_rng g (a := (fr - hd) % 3600) (by omega) (by omega)
      have := mulAbs (x := facV d ((fr - hd) % 3600)) (y := v * v) (a := 1000) (b := 100000000) (by omega) (by omega) (by omega) (by omega)
      exact ⟨by unfold fct; rw [if_pos ⟨g, by omega, by omega⟩], by omega, by omega⟩
    obtain ⟨e0, l0, u0⟩ := pr d0 g0
    obtain ⟨e1, l1, u1⟩ := pr d1 g1
    obtain ⟨e2, l2, u2⟩ := pr d2 g2
    (repeat' (first
        | (refine To.callX rfl (fun ρ2 eρ => ⟨rfl, ?_⟩); simp (disch := omega) only [X.den, X.dens, X.denss, D.int_i, D.boo_b, D.str_s, D.rows_l, List.getD_cons_zero, List.getD_cons_succ, List.cons_append, List.nil_append, List.append_nil, List.length_cons, List.length_nil, decide_eq_true_eq, decide_eq_false_iff_not, Bool.not_eq_true', Bool.not_eq_false', Bool.and_eq_true, Bool.and_eq_false_iff, Bool.true_eq_false, Bool.false_eq_true, Bool.not_true, Bool.not_false, eq_self, D.len_l, wr64, not_true_eq_false, not_false_eq_true, ia, g0, g1, g2, decide_true] at eρ; subst eρ)
        | (refine To.subK (fun K hK => ?_))
        | (refine To.need (by simp (disch := omega) only [X.den, X.dens, X.denss, D.int_i, D.boo_b, D.str_s, D.rows_l, List.getD_cons_zero, List.getD_cons_succ, List.cons_append, List.nil_append, List.append_nil, List.length_cons, List.length_nil, decide_eq_true_eq, decide_eq_false_iff_not, Bool.not_eq_true', Bool.not_eq_false', Bool.and_eq_true, Bool.and_eq_false_iff, Bool.true_eq_false, Bool.false_eq_true, Bool.not_true, Bool.not_false, eq_self, D.len_l, wr64, not_true_eq_false, not_false_eq_true, ia, g0, g1, g2, decide_true] <;> omega) ?_)
        | (refine To.ite (fun c => ?_) (fun c => ?_) <;> ((try simp (disch := omega) only [X.den, X.dens, X.denss, D.int_i, D.boo_b, D.str_s, D.rows_l, List.getD_cons_zero, List.getD_cons_succ, List.cons_append, List.nil_append, List.append_nil, List.length_cons, List.length_nil, decide_eq_true_eq, decide_eq_false_iff_not, Bool.not_eq_true', Bool.not_eq_false', Bool.and_eq_true, Bool.and_eq_false_iff, Bool.true_eq_false, Bool.false_eq_true, Bool.not_true, Bool.not_false, eq_self, D.len_l, wr64, not_true_eq_false, not_false_eq_true, ia, g0, g1, g2, decide_true] at c) <;> (try (exfalso; omega))))
        | (refine To.ret ⟨rfl, ?_⟩; (try simp (disch := omega) only [X.den, X.dens, X.denss, D.int_i, D.boo_b, D.str_s, D.rows_l, List.getD_cons_zero, List.getD_cons_succ, List.cons_append, List.nil_append, List.append_nil, List.length_cons, List.length_nil, decide_eq_true_eq, decide_eq_false_iff_not, Bool.not_eq_true', Bool.not_eq_false', Bool.and_eq_true, Bool.and_eq_false_iff, Bool.true_eq_false, Bool.false_eq_true, Bool.not_true, Bool.not_false, eq_self, D.len_l, wr64, not_true_eq_false, not_false_eq_true, ia, g0, g1, g2, decide_true]); refine hK _ _ (by simp only [List.cons_append, List.nil_append]; first | done | rfl) ?_; clear hK; clear K)))
    all_goals
      rw [wa, e0]
      refine To.viaK (by (try simp (disch := omega) only [X.den, X.dens, X.denss, D.int_i, D.boo_b, D.str_s, D.rows_l, List.getD_cons_zero, List.getD_cons_succ, List.cons_append, List.nil_append, List.append_nil, List.length_cons, List.length_nil, decide_eq_true_eq, decide_eq_false_iff_not, Bool.not_eq_true', Bool.not_eq_false', Bool.and_eq_true, Bool.and_eq_false_iff, Bool.true_eq_false, Bool.false_eq_true, Bool.not_true, Bool.not_false, eq_self, D.len_l, wr64, not_true_eq_false, not_false_eq_true]); exact rnd_to (n := facV d0 ((fr - hd) % 3600) * (v * v)) (d := 1000000) (by omega) (by omega) (by omega) (by omega)) ?_
      rintro _ ρ2 rfl eρ
      refine ⟨rfl, ?_⟩
      simp only [List.cons_append, List.nil_append] at eρ
      subst eρ
      refine To.viaK (by (try simp (disch := omega) only [X.den, X.dens, X.denss, D.int_i, D.boo_b, D.str_s, D.rows_l, List.getD_cons_zero, List.getD_cons_succ, List.cons_append, List.nil_append, List.append_nil, List.length_cons, List.length_nil, decide_eq_true_eq, decide_eq_false_iff_not, Bool.not_eq_true', Bool.not_eq_false', Bool.and_eq_true, Bool.and_eq_false_iff, Bool.true_eq_false, Bool.false_eq_true, Bool.not_true, Bool.not_false, eq_self, D.len_l, wr64, not_true_eq_false, not_false_eq_true, wa]); exact fct_to (d := d1) (a := (fr - hd) % 3600)) ?_
      rintro _ ρ2 rfl eρ
      refine ⟨rfl, ?_⟩
      simp only [List.cons_append, List.nil_append] at eρ
      subst eρ
      rw [e1]
      refine To.viaK (by (try simp (disch := omega) only [X.den, X.dens, X.denss, D.int_i, D.boo_b, D.str_s, D.rows_l, List.getD_cons_zero, List.getD_cons_succ, List.cons_append, List.nil_append, List.append_nil, List.length_cons, List.length_nil, decide_eq_true_eq, decide_eq_false_iff_not, Bool.not_eq_true', Bool.not_eq_false', Bool.and_eq_true, Bool.and_eq_false_iff, Bool.true_eq_false, Bool.false_eq_true, Bool.not_true, Bool.not_false, eq_self, D.len_l, wr64, not_true_eq_false, not_false_eq_true]); exact rnd_to (n := facV d1 ((fr - hd) % 3600) * (v * v)) (d := 1000000) (by omega) (by omega) (by omega) (by omega)) ?_
      rintro _ ρ2 rfl eρ
      refine ⟨rfl, ?_⟩
      simp only [List.cons_append, List.nil_append] at eρ
      subst eρ
      refine To.viaK (by (try simp (disch := omega) only [X.den, X.dens, X.denss, D.int_i, D.boo_b, D.str_s, D.rows_l, List.getD_cons_zero, List.getD_cons_succ, List.cons_append, List.nil_append, List.append_nil, List.length_cons, List.length_nil, decide_eq_true_eq, decide_eq_false_iff_not, Bool.not_eq_true', Bool.not_eq_false', Bool.and_eq_true, Bool.and_eq_false_iff, Bool.true_eq_false, Bool.false_eq_true, Bool.not_true, Bool.not_false, eq_self, D.len_l, wr64, not_true_eq_false, not_false_eq_true, wa]); exact fct_to (d := d2) (a := (fr - hd) % 3600)) ?_
      rintro _ ρ2 rfl eρ
      refine ⟨rfl, ?_⟩
      simp only [List.cons_append, List.nil_append] at eρ
      subst eρ
      rw [e2]
      refine To.viaK (by (try simp (disch := omega) only [X.den, X.dens, X.denss, D.int_i, D.boo_b, D.str_s, D.rows_l, List.getD_cons_zero, List.getD_cons_succ, List.cons_append, List.nil_append, List.append_nil, List.length_cons, List.length_nil, decide_eq_true_eq, decide_eq_false_iff_not, Bool.not_eq_true', Bool.not_eq_false', Bool.and_eq_true, Bool.and_eq_false_iff, Bool.true_eq_false, Bool.false_eq_true, Bool.not_true, Bool.not_false, eq_self, D.len_l, wr64, not_true_eq_false, not_false_eq_true]); exact rnd_to (n := facV d2 ((fr - hd) % 3600) * (v * v)) (d := 1000000) (by omega) (by omega) (by omega) (by omega)) ?_
      rintro _ ρ2 rfl eρ
      refine ⟨rfl, ?_⟩
      simp only [List.cons_append, List.nil_append] at eρ
      subst eρ
      refine To.ret ?_
      simp only [X.den, X.dens, X.denss, D.int_i, D.boo_b, D.str_s, D.rows_l, List.getD_cons_zero, List.getD_cons_succ, List.cons_append, List.nil_append, List.append_nil, List.length_cons, List.length_nil, lod, if_pos hv, ldV, Int.mul_assoc]
  · by_cases g0 : FacOk d0
    · by_cases g1 : FacOk d1
      · by_cases g2 : FacOk d2
        · have hv' : ¬ ((0 ≤ fr ∧ fr < 3600) ∧ (0 ≤ v ∧ v ≤ 10000) ∧ 0 ≤ hd ∧ hd < 3600) := fun q => hv ⟨⟨g0, g1, g2⟩, q⟩
          (repeat' (first
              | (refine To.callX rfl (fun ρ2 eρ => ⟨rfl, ?_⟩); simp (disch := omega) only [X.den, X.dens, X.denss, D.int_i, D.boo_b, D.str_s, D.rows_l, List.getD_cons_zero, List.getD_cons_succ, List.cons_append, List.nil_append, List.append_nil, List.length_cons, List.length_nil, decide_eq_true_eq, decide_eq_false_iff_not, Bool.not_eq_true', Bool.not_eq_false', Bool.and_eq_true, Bool.and_eq_false_iff, Bool.true_eq_false, Bool.false_eq_true, Bool.not_true, Bool.not_false, eq_self, D.len_l, wr64, not_true_eq_false, not_false_eq_true, ia, g0, g1, g2, decide_true] at eρ; subst eρ)
              | (refine To.subK (fun K hK => ?_))
              | (refine To.need (by simp (disch := omega) only [X.den, X.dens, X.denss, D.int_i, D.boo_b, D.str_s, D.rows_l, List.getD_cons_zero, List.getD_cons_succ, List.cons_append, List.nil_append, List.append_nil, List.length_cons, List.length_nil, decide_eq_true_eq, decide_eq_false_iff_not, Bool.not_eq_true', Bool.not_eq_false', Bool.and_eq_true, Bool.and_eq_false_iff, Bool.true_eq_false, Bool.false_eq_true, Bool.not_true, Bool.not_false, eq_self, D.len_l, wr64, not_true_eq_false, not_false_eq_true, ia, g0, g1, g2, decide_true] <;> omega) ?_)
              | (refine To.ite (fun c => ?_) (fun c => ?_) <;> ((try simp (disch := omega) only [X.den, X.dens, X.denss, D.int_i, D.boo_b, D.str_s, D.rows_l, List.getD_cons_zero, List.getD_cons_succ, List.cons_append, List.nil_append, List.append_nil, List.length_cons, List.length_nil, decide_eq_true_eq, decide_eq_false_iff_not, Bool.not_eq_true', Bool.not_eq_false', Bool.and_eq_true, Bool.and_eq_false_iff, Bool.true_eq_false, Bool.false_eq_true, Bool.not_true, Bool.not_false, eq_self, D.len_l, wr64, not_true_eq_false, not_false_eq_true, ia, g0, g1, g2, decide_true] at c) <;> (try (exfalso; omega))))
              | (refine To.ret ⟨rfl, ?_⟩; (try simp (disch := omega) only [X.den, X.dens, X.denss, D.int_i, D.boo_b, D.str_s, D.rows_l, List.getD_cons_zero, List.getD_cons_succ, List.cons_append, List.nil_append, List.append_nil, List.length_cons, List.length_nil, decide_eq_true_eq, decide_eq_false_iff_not, Bool.not_eq_true', Bool.not_eq_false', Bool.and_eq_true, Bool.and_eq_false_iff, Bool.true_eq_false, Bool.false_eq_true, Bool.not_true, Bool.not_false, eq_self, D.len_l, wr64, not_true_eq_false, not_false_eq_true, ia, g0, g1, g2, decide_true]); refine hK _ _ (by simp only [List.cons_append, List.nil_append]; first | done | rfl) ?_; clear hK; clear K)))
          all_goals (refine To.ret ?_; simp only [X.den, X.dens, X.denss, D.int_i, D.boo_b, D.str_s, D.rows_l, List.getD_cons_zero, List.getD_cons_succ, List.cons_append, List.nil_append, List.append_nil, List.length_cons, List.length_nil, lod, if_neg hv])
        · (repeat' (first
              | (refine To.callX rfl (fun ρ2 eρ => ⟨rfl, ?_⟩); simp (disch := omega) only [X.den, X.dens, X.denss, D.int_i, D.boo_b, D.str_s, D.rows_l, List.getD_cons_zero, List.getD_cons_succ, List.cons_append, List.nil_append, List.append_nil, List.length_cons, List.length_nil, decide_eq_true_eq, decide_eq_false_iff_not, Bool.not_eq_true', Bool.not_eq_false', Bool.and_eq_true, Bool.and_eq_false_iff, Bool.true_eq_false, Bool.false_eq_true, Bool.not_true, Bool.not_false, eq_self, D.len_l, wr64, not_true_eq_false, not_false_eq_true, ia, g0, g1, g2, decide_true, decide_false] at eρ; subst eρ)
              | (refine To.subK (fun K hK => ?_))
              | (refine To.need (by simp (disch := omega) only [X.den, X.dens, X.denss, D.int_i, D.boo_b, D.str_s, D.rows_l, List.getD_cons_zero, List.getD_cons_succ, List.cons_append, List.nil_append, List.append_nil, List.length_cons, List.length_nil, decide_eq_true_eq, decide_eq_false_iff_not, Bool.not_eq_true', Bool.not_eq_false', Bool.and_eq_true, Bool.and_eq_false_iff, Bool.true_eq_false, Bool.false_eq_true, Bool.not_true, Bool.not_false, eq_self, D.len_l, wr64, not_true_eq_false, not_false_eq_true, ia, g0, g1, g2, decide_true, decide_false] <;> omega) ?_)
              | (refine To.ite (fun c => ?_) (fun c => ?_) <;> ((try simp (disch := omega) only [X.den, X.dens, X.denss, D.int_i, D.boo_b, D.str_s, D.rows_l, List.getD_cons_zero, List.getD_cons_succ, List.cons_append, List.nil_append, List.append_nil, List.length_cons, List.length_nil, decide_eq_true_eq, decide_eq_false_iff_not, Bool.not_eq_true', Bool.not_eq_false', Bool.and_eq_true, Bool.and_eq_false_iff, Bool.true_eq_false, Bool.false_eq_true, Bool.not_true, Bool.not_false, eq_self, D.len_l, wr64, not_true_eq_false, not_false_eq_true, ia, g0, g1, g2, decide_true, decide_false] at c) <;> (try (exfalso; omega))))
              | (refine To.ret ⟨rfl, ?_⟩; (try simp (disch := omega) only [X.den, X.dens, X.denss, D.int_i, D.boo_b, D.str_s, D.rows_l, List.getD_cons_zero, List.getD_cons_succ, List.cons_append, List.nil_append, List.append_nil, List.length_cons, List.length_nil, decide_eq_true_eq, decide_eq_false_iff_not, Bool.not_eq_true', Bool.not_eq_false', Bool.and_eq_true, Bool.and_eq_false_iff, Bool.true_eq_false, Bool.false_eq_true, Bool.not_true, Bool.not_false, eq_self, D.len_l, wr64, not_true_eq_false, not_false_eq_true, ia, g0, g1, g2, decide_true, decide_false]); refine hK _ _ (by simp only [List.cons_append, List.nil_append]; first | done | rfl) ?_; clear hK; clear K)))
          all_goals (refine To.ret ?_; simp only [X.den, X.dens, X.denss, D.int_i, D.boo_b, D.str_s, D.rows_l, List.getD_cons_zero, List.getD_cons_succ, List.cons_append, List.nil_append, List.append_nil, List.length_cons, List.length_nil, lod, if_neg hv])
      · (repeat' (first
            | (refine To.callX rfl (fun ρ2 eρ => ⟨rfl, ?_⟩); simp (disch := omega) only [X.den, X.dens, X.denss, D.int_i, D.boo_b, D.str_s, D.rows_l, List.getD_cons_zero, List.getD_cons_succ, List.cons_append, List.nil_append, List.append_nil, List.length_cons, List.length_nil, decide_eq_true_eq, decide_eq_false_iff_not, Bool.not_eq_true', Bool.not_eq_false', Bool.and_eq_true, Bool.and_eq_false_iff, Bool.true_eq_false, Bool.false_eq_true, Bool.not_true, Bool.not_false, eq_self, D.len_l, wr64, not_true_eq_false, not_false_eq_true, ia, g0, g1, decide_true, decide_false] at eρ; subst eρ)
            | (refine To.subK (fun K hK => ?_))
            | (refine To.need (by simp (disch := omega) only [X.den, X.dens, X.denss, D.int_i, D.boo_b, D.str_s, D.rows_l, List.getD_cons_zero, List.getD_cons_succ, List.cons_append, List.nil_append, List.append_nil, List.length_cons, List.length_nil, decide_eq_true_eq, decide_eq_false_iff_not, Bool.not_eq_true', Bool.not_eq_false', Bool.and_eq_true, Bool.and_eq_false_iff, Bool.true_eq_false, Bool.false_eq_true, Bool.not_true, Bool.not_false, eq_self, D.len_l, wr64, not_true_eq_false, not_false_eq_true, ia, g0, g1, decide_true, decide_false] <;> omega) ?_)
            | (refine To.ite (fun c => ?_) (fun c => ?_) <;> ((try simp (disch := omega) only [X.den, X.dens, X.denss, D.int_i, D.boo_b, D.str_s, D.rows_l, List.getD_cons_zero, List.getD_cons_succ, List.cons_append, List.nil_append, List.append_nil, List.length_cons, List.length_nil, decide_eq_true_eq, decide_eq_false_iff_not, Bool.not_eq_true', Bool.not_eq_false', Bool.and_eq_true, Bool.and_eq_false_iff, Bool.true_eq_false, Bool.false_eq_true, Bool.not_true, Bool.not_false, eq_self, D.len_l, wr64, not_true_eq_false, not_false_eq_true, ia, g0, g1, decide_true, decide_false] at c) <;> (try (exfalso; omega))))
            | (refine To.ret ⟨rfl, ?_⟩; (try simp (disch := omega) only [X.den, X.dens, X.denss, D.int_i, D.boo_b, D.str_s, D.rows_l, List.getD_cons_zero, List.getD_cons_succ, List.cons_append, List.nil_append, List.append_nil, List.length_cons, List.length_nil, decide_eq_true_eq, decide_eq_false_iff_not, Bool.not_eq_true', Bool.not_eq_false', Bool.and_eq_true, Bool.and_eq_false_iff, Bool.true_eq_false, Bool.false_eq_true, Bool.not_true, Bool.not_false, eq_self, D.len_l, wr64, not_true_eq_false, not_false_eq_true, ia, g0, g1, decide_true, decide_false]); refine hK _ _ (by simp only [List.cons_append, List.nil_append]; first | done | rfl) ?_; clear hK; clear K)))
        all_goals (refine To.ret ?_; simp only [X.den, X.dens, X.denss, D.int_i, D.boo_b, D.str_s, D.rows_l, List.getD_cons_zero, List.getD_cons_succ, List.cons_append, List.nil_append, List.append_nil, List.length_cons, List.length_nil, lod, if_neg hv])
    · (repeat' (first
          | (refine To.callX rfl (fun ρ2 eρ => ⟨rfl, ?_⟩); simp (disch := omega) only [X.den, X.dens, X.denss, D.int_i, D.boo_b, D.str_s, D.rows_l, List.getD_cons_zero, List.getD_cons_succ, List.cons_append, List.nil_append, List.append_nil, List.length_cons, List.length_nil, decide_eq_true_eq, decide_eq_false_iff_not, Bool.not_eq_true', Bool.not_eq_false', Bool.and_eq_true, Bool.and_eq_false_iff, Bool.true_eq_false, Bool.false_eq_true, Bool.not_true, Bool.not_false, eq_self, D.len_l, wr64, not_true_eq_false, not_false_eq_true, ia, g0, decide_true, decide_false] at eρ; subst eρ)
          | (refine To.subK (fun K hK => ?_))
          | (refine To.need (by simp (disch := omega) only [X.den, X.dens, X.denss, D.int_i, D.boo_b, D.str_s, D.rows_l, List.getD_cons_zero, List.getD_cons_succ, List.cons_append, List.nil_append, List.append_nil, List.length_cons, List.length_nil, decide_eq_true_eq, decide_eq_false_iff_not, Bool.not_eq_true', Bool.not_eq_false', Bool.and_eq_true, Bool.and_eq_false_iff, Bool.true_eq_false, Bool.false_eq_true, Bool.not_true, Bool.not_false, eq_self, D.len_l, wr64, not_true_eq_false, not_false_eq_true, ia, g0, decide_true, decide_false] <;> omega) ?_)
          | (refine To.ite (fun c => ?_) (fun c => ?_) <;> ((try simp (disch := omega) only [X.den, X.dens, X.denss, D.int_i, D.boo_b, D.str_s, D.rows_l, List.getD_cons_zero, List.getD_cons_succ, List.cons_append, List.nil_append, List.append_nil, List.length_cons, List.length_nil, decide_eq_true_eq, decide_eq_false_iff_not, Bool.not_eq_true', Bool.not_eq_false', Bool.and_eq_true, Bool.and_eq_false_iff, Bool.true_eq_false, Bool.false_eq_true, Bool.not_true, Bool.not_false, eq_self, D.len_l, wr64, not_true_eq_false, not_false_eq_true, ia, g0, decide_true, decide_false] at c) <;> (try (exfalso; omega))))
          | (refine To.ret ⟨rfl, ?_⟩; (try simp (disch := omega) only [X.den, X.dens, X.denss, D.int_i, D.boo_b, D.str_s, D.rows_l, List.getD_cons_zero, List.getD_cons_succ, List.cons_append, List.nil_append, List.append_nil, List.length_cons, List.length_nil, decide_eq_true_eq, decide_eq_false_iff_not, Bool.not_eq_true', Bool.not_eq_false', Bool.and_eq_true, Bool.and_eq_false_iff, Bool.true_eq_false, Bool.false_eq_true, Bool.not_true, Bool.not_false, eq_self, D.len_l, wr64, not_true_eq_false, not_false_eq_true, ia, g0, decide_true, decide_false]); refine hK _ _ (by simp only [List.cons_append, List.nil_append]; first | done | rfl) ?_; clear hK; clear K)))
      all_goals (refine To.ret ?_; simp only [X.den, X.dens, X.denss, D.int_i, D.boo_b, D.str_s, D.rows_l, List.getD_cons_zero, List.getD_cons_succ, List.cons_append, List.nil_append, List.append_nil, List.length_cons, List.length_nil, lod, if_neg hv])
/- what both have by the same tree -/
noncomputable def rckM : Models := Models.on rwList_K.f facM noM
theorem rwCheck_ok : ConOk Try.prog rwCheck_K (wCheck_T.run wcM 0) := con_sub (con_run follows (M := rckM) (one_con (rwList_ok.to _) no_cons) rwCheck_t rfl 0) fun ds outs h => h
noncomputable def ptM : Models := Models.on wCheck_K.f (wCheck_T.run wcM 0) (Models.on wLoad_K.f lodM noM)
noncomputable def rtM : Models := Models.on rwCheck_K.f (wCheck_T.run wcM 0) (Models.on rwLoad_K.f lodM noM)
theorem pwTotal_ok : ConOk Try.prog wTotal_K (wTotal_T.run ptM 0) := con_run follows (one_con (wCheck_ok.to _) (one_con (pwLoad_ok.to _) no_cons)) wTotal_t rfl 0
theorem rwTotal_ok : ConOk Try.prog rwTotal_K (wTotal_T.run ptM 0) := con_sub (con_run follows (M := rtM) (one_con (rwCheck_ok.to _) (one_con (rwLoad_ok.to _) no_cons)) rwTotal_t rfl 0) fun ds outs h => h
theorem pwValid_ok : ConOk Try.prog pwValid_K (pwValid_T.run noM 0) := con_run follows no_cons pwValid_t rfl 0
theorem rwValid_ok : ConOk Try.prog rwValid_K (pwValid_T.run noM 0) := con_sub (con_run follows (M := noM) no_cons rwValid_t rfl 0) fun ds outs h => h
end Go.Proofs.Ytdkamfkpmplaoaa
