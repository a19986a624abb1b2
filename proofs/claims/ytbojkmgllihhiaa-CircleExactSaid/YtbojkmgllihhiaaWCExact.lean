/- CircleExact: all functions for any circles and estimates: the program's give what the reference's give. -/
import Derived.Test.YtbojkmgllihhiaaCxL
import Derived.Test.YtbojkmgllihhiaaCx
set_option linter.unusedVariables false
set_option linter.unusedSimpArgs false
namespace Go.Proofs.Ytbojkmgllihhiaa
open Go.RowKit Fx
noncomputable def cxM : Models := Models.on srcN_K.f (srcN_T.run noM 0) (Models.on srcCircle_K.f (srcCircle_T.run srcM 0) (Models.on srcEst_K.f (srcEst_T.run srcM 0) (Models.on pcCheck_K.f (F4 ck) (Models.on rcCheck_K.f (F4 ck) (Models.on pcFar_K.f (F8 far) (Models.on rcFar_K.f (F8 far) (Models.on pcClose_K.f (F8 clo) (Models.on rcClose_K.f (F8 clo) (Models.on pcWorst_K.f (F8 wo) (Models.on rcWorst_K.f (F8 wo) (Models.on pcBest_K.f (F8 be) (Models.on rcBest_K.f (F8 be) (Models.on pcLeft_K.f lfR (Models.on rcLeft_K.f lfR (Models.on sane29_K.f (fun ds => if ds = [] then some [.b true] else none) noM)))))))))))))))
/-- a number of 64 bits -/
def I64 (d : D) : Prop := -9223372036854775808 ≤ d.int ∧ d.int ≤ 9223372036854775807
instance (d : D) : Decidable (I64 d) := by unfold I64; infer_instance
def cxR : List D → Option (List D) := fun ds => match ds with
  | [.l rows, a1, a2, a3, a4, b1, b2, b3, b4, b5, sp] => if I64 b3 then some [.b true] else none
  | _ => none
theorem lf_to {a b c d e f g h i j : D} (hg : I64 g) : ∃ l, lfR [a, b, c, d, e, f, g, h, i, j] = some l ∧ l = [.i (lf a.int b.int c.int d.int e.int f.int g.int i.int j.int)] := ⟨_, if_pos hg, rfl⟩
theorem src_take29 {rows : List (List D)} : SrcOk (rows.take (min (min (rows.length : Int) 9223372036854775807) 600).toNat) 0 := ⟨by omega, by omega, by rw [List.length_take]; omega⟩
theorem cx_ok : ConOk Try.prog cxExact_K cxR :=
  con_of follows (M := cxM) (one_con (srcN_ok.to _) (one_con (srcCircle_ok.to _) (one_con (srcEst_ok.to _) (one_con (pcCheck_ok.to _) (one_con (rcCheck_ok.to _) (one_con (pcFar_ok.to _) (one_con (rcFar_ok.to _) (one_con (pcClose_ok.to _) (one_con (rcClose_ok.to _) (one_con (pcWorst_ok.to _) (one_con (rcWorst_ok.to _) (one_con (pcBest_ok.to _) (one_con (rcBest_ok.to _) (one_con (pcLeft_ok.to _) (one_con (rcLeft_ok.to _) (one_con (sane29_ok.to _) no_cons)))))))))))))))) cxExact_t fun ds outs hl h => by
    unfold cxR at h
    split at h
    · rename_i rows a1 a2 a3 a4 b1 b2 b3 b4 b5 sp
      split at h
      · rename_i hb
        injection h with h
        subst h
        have hs : (fun ds : List D => if ds = [] then some [D.b true] else none) [] = some [D.b true] := if_pos rfl
        refine ⟨fun i l h k => by simp [cxExact_K] at k, 10, ?_⟩
        unfold cxExact_T
        refine To.ite (fun c => ?_) (fun c => ?_) <;> simp only [X.den, X.dens, X.denss, D.int_i, D.boo_b, D.str_s, D.rows_l, List.getD_cons_zero, List.getD_cons_succ, List.cons_append, List.nil_append, List.append_nil, List.length_cons, List.length_nil, decide_eq_true_eq, decide_eq_false_iff_not, Bool.not_eq_true', Bool.not_eq_false', Bool.and_eq_true, Bool.and_eq_false_iff, Bool.true_eq_false, Bool.false_eq_true, Bool.not_true, Bool.not_false, eq_self, D.len_l] at c
        · refine To.callK (l := [.b true]) hs rfl _ (by simp only [List.cons_append, List.nil_append]; first | done | rfl) (To.ret ?_)
          simp only [X.den, X.dens, X.denss, D.int_i, D.boo_b, D.str_s, D.rows_l, List.getD_cons_zero, List.getD_cons_succ, List.cons_append, List.nil_append, List.append_nil, List.length_cons, List.length_nil]
        refine To.need (by simp only [X.den, X.dens, X.denss, D.int_i, D.boo_b, D.str_s, D.rows_l, List.getD_cons_zero, List.getD_cons_succ, List.cons_append, List.nil_append, List.append_nil, List.length_cons, List.length_nil, decide_eq_true_eq, decide_eq_false_iff_not, Bool.not_eq_true', Bool.not_eq_false', Bool.and_eq_true, Bool.and_eq_false_iff, Bool.true_eq_false, Bool.false_eq_true, Bool.not_true, Bool.not_false, eq_self, D.len_l]; omega) ?_
        refine To.viaK (by (try simp (disch := omega) only [X.den, X.dens, X.denss, D.int_i, D.boo_b, D.str_s, D.rows_l, List.getD_cons_zero, List.getD_cons_succ, List.cons_append, List.nil_append, List.append_nil, List.length_cons, List.length_nil, decide_eq_true_eq, decide_eq_false_iff_not, Bool.not_eq_true', Bool.not_eq_false', Bool.and_eq_true, Bool.and_eq_false_iff, Bool.true_eq_false, Bool.false_eq_true, Bool.not_true, Bool.not_false, eq_self, D.len_l, wr64, not_true_eq_false, not_false_eq_true]); exact srcCircle_to (t := 0) src_take29) ?_
        rintro _ ρ2 ⟨x0, y0, u0, v0, at0, rfl, _, _, _, _, _, _, _, h0⟩ eρ
        refine ⟨rfl, ?_⟩
        simp only [List.cons_append, List.nil_append] at eρ
        subst eρ
        generalize (List.take _ _ : List (List D)) = rs at h0 ⊢
        refine To.loopK (fun m l => ∃ at_ i, l = [.l rs, .i at_, .i i] ∧ SrcOk rs at_ ∧ 0 ≤ i ∧ i + m = 2) (fun l => ∃ z1 z2 z3 z4 z5 z6, l = [.i 1, z1, z2, z3, z4, z5, z6]) 2 (by omega) ?_ ?_ ?_
        · exact ⟨at0, 0, by simp only [X.den, X.dens, X.denss, D.int_i, D.boo_b, D.str_s, D.rows_l, List.getD_cons_zero, List.getD_cons_succ, List.cons_append, List.nil_append, List.append_nil, List.length_cons, List.length_nil], h0, by omega, by omega⟩
        · rintro m l ρ2 ⟨at_, i, rfl, hs1, i0, i1⟩ eρ
          simp only [List.cons_append, List.nil_append] at eρ
          subst eρ
          refine To.ite (fun c => ?_) (fun c => ?_) <;> simp only [X.den, X.dens, X.denss, D.int_i, D.boo_b, D.str_s, D.rows_l, List.getD_cons_zero, List.getD_cons_succ, List.cons_append, List.nil_append, List.append_nil, List.length_cons, List.length_nil, decide_eq_true_eq, decide_eq_false_iff_not, Bool.not_eq_true', Bool.not_eq_false', Bool.and_eq_true, Bool.and_eq_false_iff, Bool.true_eq_false, Bool.false_eq_true, Bool.not_true, Bool.not_false, eq_self] at c
          · refine To.joinK (fun l => ∃ at_ rest, l = .i 0 :: .l rs :: .i at_ :: rest ∧ SrcOk rs at_) ?_ ?_
            · refine To.joinK (fun l => ∃ p1 p2 p3 p4, l = [p1, p2, p3, p4, p1, p2, p3, p4]) ?_ ?_
              · refine To.ite (fun c => ?_) (fun c => ?_)
                · exact To.ret ⟨rfl, _, _, _, _, rfl⟩
                · exact To.ret ⟨rfl, _, _, _, _, rfl⟩
              rintro l ρ2 ⟨p1, p2, p3, p4, rfl⟩ eρ
              simp only [List.cons_append, List.nil_append] at eρ
              subst eρ
              refine To.callX rfl (fun ρ2 eρ => ⟨rfl, ?_⟩)
              simp only [X.den, X.dens, X.denss, D.int_i, D.boo_b, D.str_s, D.rows_l, List.getD_cons_zero, List.getD_cons_succ, List.cons_append, List.nil_append, List.append_nil, List.length_cons, List.length_nil, ia] at eρ
              subst eρ
              refine To.callX rfl (fun ρ2 eρ => ⟨rfl, ?_⟩)
              simp only [X.den, X.dens, X.denss, D.int_i, D.boo_b, D.str_s, D.rows_l, List.getD_cons_zero, List.getD_cons_succ, List.cons_append, List.nil_append, List.append_nil, List.length_cons, List.length_nil, ia] at eρ
              subst eρ
              refine To.yes (by simp only [X.den, X.dens, X.denss, D.int_i, D.boo_b, D.str_s, D.rows_l, List.getD_cons_zero, List.getD_cons_succ, List.cons_append, List.nil_append, List.append_nil, List.length_cons, List.length_nil]; simp) ?_
              refine To.viaK (by (try simp (disch := omega) only [X.den, X.dens, X.denss, D.int_i, D.boo_b, D.str_s, D.rows_l, List.getD_cons_zero, List.getD_cons_succ, List.cons_append, List.nil_append, List.append_nil, List.length_cons, List.length_nil, decide_eq_true_eq, decide_eq_false_iff_not, Bool.not_eq_true', Bool.not_eq_false', Bool.and_eq_true, Bool.and_eq_false_iff, Bool.true_eq_false, Bool.false_eq_true, Bool.not_true, Bool.not_false, eq_self, D.len_l, wr64, not_true_eq_false, not_false_eq_true]); exact srcEst_to (t := 3) hs1) ?_
              rintro _ ρ2 ⟨ex, ey, eb, es, at1, rfl, _, _, _, _, e0, e1, _, _, h1⟩ eρ
              refine ⟨rfl, ?_⟩
              simp only [List.cons_append, List.nil_append] at eρ
              subst eρ
              refine To.loopK (fun m l => ∃ at_ i, l = [.l rs, .i at_, .i i] ∧ SrcOk rs at_ ∧ 0 ≤ i ∧ i + m = 2) (fun l => ∃ at_ rest, l = .i 1 :: .l rs :: .i at_ :: rest ∧ rest.length = 31 ∧ SrcOk rs at_) 2 (by omega) ?_ ?_ ?_
              · exact ⟨at1, 0, by simp only [X.den, X.dens, X.denss, D.int_i, D.boo_b, D.str_s, D.rows_l, List.getD_cons_zero, List.getD_cons_succ, List.cons_append, List.nil_append, List.append_nil, List.length_cons, List.length_nil], h1, by omega, by omega⟩
              · rintro m l ρ2 ⟨at2, j, rfl, hs2, j0, j1⟩ eρ
                simp only [List.cons_append, List.nil_append] at eρ
                subst eρ
                refine To.ite (fun c => ?_) (fun c => ?_) <;> simp only [X.den, X.dens, X.denss, D.int_i, D.boo_b, D.str_s, D.rows_l, List.getD_cons_zero, List.getD_cons_succ, List.cons_append, List.nil_append, List.append_nil, List.length_cons, List.length_nil, decide_eq_true_eq, decide_eq_false_iff_not, Bool.not_eq_true', Bool.not_eq_false', Bool.and_eq_true, Bool.and_eq_false_iff, Bool.true_eq_false, Bool.false_eq_true, Bool.not_true, Bool.not_false, eq_self] at c
                · refine To.joinK (fun l => ∃ at_ rest, l = .i 1 :: .l rs :: .i at_ :: rest ∧ SrcOk rs at_) ?_ ?_
                  · refine To.joinK (fun l => ∃ e1 e2 e3 e4 e5, l = [e1, e2, e3, e4, e5, e1, e2, e3, e4, e5] ∧ I64 e3) ?_ ?_
                    · refine To.ite (fun c => ?_) (fun c => ?_)
                      · exact To.ret ⟨rfl, _, _, _, _, _, rfl, by unfold I64; simp only [X.den, X.dens, X.denss, D.int_i, D.boo_b, D.str_s, D.rows_l, List.getD_cons_zero, List.getD_cons_succ, List.cons_append, List.nil_append, List.append_nil, List.length_cons, List.length_nil]; omega⟩
                      · exact To.ret ⟨rfl, _, _, _, _, _, rfl, hb⟩
                    rintro l ρ2 ⟨e1, e2, e3, e4, e5, rfl, he⟩ eρ
                    simp only [List.cons_append, List.nil_append] at eρ
                    subst eρ
                    refine To.joinK (fun l => ∃ z1 z2 z3 z4 z5 z6 z7 z8, l = [z1, z2, z3, z4, z5, z6, z7, z8, .b false]) ?_ ?_
                    · (repeat' (first
                          | (refine To.callX rfl (fun ρ2 eρ => ⟨rfl, ?_⟩); simp (disch := omega) only [X.den, X.dens, X.denss, D.int_i, D.boo_b, D.str_s, D.rows_l, List.getD_cons_zero, List.getD_cons_succ, List.cons_append, List.nil_append, List.append_nil, List.length_cons, List.length_nil, decide_eq_true_eq, decide_eq_false_iff_not, Bool.not_eq_true', Bool.not_eq_false', Bool.and_eq_true, Bool.and_eq_false_iff, Bool.true_eq_false, Bool.false_eq_true, Bool.not_true, Bool.not_false, eq_self, D.len_l, wr64, not_true_eq_false, not_false_eq_true, ia] at eρ; subst eρ)
                          | (refine To.subK (fun K hK => ?_))
                          | (refine To.need (by simp (disch := omega) only [X.den, X.dens, X.denss, D.int_i, D.boo_b, D.str_s, D.rows_l, List.getD_cons_zero, List.getD_cons_succ, List.cons_append, List.nil_append, List.append_nil, List.length_cons, List.length_nil, decide_eq_true_eq, decide_eq_false_iff_not, Bool.not_eq_true', Bool.not_eq_false', Bool.and_eq_true, Bool.and_eq_false_iff, Bool.true_eq_false, Bool.false_eq_true, Bool.not_true, Bool.not_false, eq_self, D.len_l, wr64, not_true_eq_false, not_false_eq_true, ia] <;> omega) ?_)
                          | (refine To.ite (fun c => ?_) (fun c => ?_) <;> ((try simp (disch := omega) only [X.den, X.dens, X.denss, D.int_i, D.boo_b, D.str_s, D.rows_l, List.getD_cons_zero, List.getD_cons_succ, List.cons_append, List.nil_append, List.append_nil, List.length_cons, List.length_nil, decide_eq_true_eq, decide_eq_false_iff_not, Bool.not_eq_true', Bool.not_eq_false', Bool.and_eq_true, Bool.and_eq_false_iff, Bool.true_eq_false, Bool.false_eq_true, Bool.not_true, Bool.not_false, eq_self, D.len_l, wr64, not_true_eq_false, not_false_eq_true, ia] at c) <;> (try (exfalso; omega))))
                          | (refine To.ret ⟨rfl, ?_⟩; (try simp (disch := omega) only [X.den, X.dens, X.denss, D.int_i, D.boo_b, D.str_s, D.rows_l, List.getD_cons_zero, List.getD_cons_succ, List.cons_append, List.nil_append, List.append_nil, List.length_cons, List.length_nil, decide_eq_true_eq, decide_eq_false_iff_not, Bool.not_eq_true', Bool.not_eq_false', Bool.and_eq_true, Bool.and_eq_false_iff, Bool.true_eq_false, Bool.false_eq_true, Bool.not_true, Bool.not_false, eq_self, D.len_l, wr64, not_true_eq_false, not_false_eq_true, ia]); refine hK _ _ (by simp only [List.cons_append, List.nil_append]; first | done | rfl) ?_; clear hK; clear K)))
                      all_goals (refine To.ret ⟨rfl, ?_⟩; simp only [X.den, X.dens, X.denss, D.int_i, D.boo_b, D.str_s, D.rows_l, List.getD_cons_zero, List.getD_cons_succ, List.cons_append, List.nil_append, List.append_nil, List.length_cons, List.length_nil]; exact ⟨_, _, _, _, _, _, _, _, rfl⟩)
                    rintro l ρ2 ⟨z1, z2, z3, z4, z5, z6, z7, z8, rfl⟩ eρ
                    simp only [List.cons_append, List.nil_append] at eρ
                    subst eρ
                    refine To.no rfl ?_
                    refine To.viaK (by (try simp (disch := omega) only [X.den, X.dens, X.denss, D.int_i, D.boo_b, D.str_s, D.rows_l, List.getD_cons_zero, List.getD_cons_succ, List.cons_append, List.nil_append, List.append_nil, List.length_cons, List.length_nil, decide_eq_true_eq, decide_eq_false_iff_not, Bool.not_eq_true', Bool.not_eq_false', Bool.and_eq_true, Bool.and_eq_false_iff, Bool.true_eq_false, Bool.false_eq_true, Bool.not_true, Bool.not_false, eq_self, D.len_l, wr64, not_true_eq_false, not_false_eq_true]); exact srcN_to hs2 (by omega) (by omega)) ?_
                    rintro _ ρ2 ⟨r3, t3, rfl, p3, q3, h3⟩ eρ
                    refine ⟨rfl, ?_⟩
                    simp only [List.cons_append, List.nil_append] at eρ
                    subst eρ
                    refine To.need (by simp only [X.den, X.dens, X.denss, D.int_i, D.boo_b, D.str_s, D.rows_l, List.getD_cons_zero, List.getD_cons_succ, List.cons_append, List.nil_append, List.append_nil, List.length_cons, List.length_nil, decide_eq_true_eq, decide_eq_false_iff_not, Bool.not_eq_true', Bool.not_eq_false', Bool.and_eq_true, Bool.and_eq_false_iff, Bool.true_eq_false, Bool.false_eq_true, Bool.not_true, Bool.not_false, eq_self]; omega) ?_
                    refine To.loopK (fun m l => ∃ i, l = [.i i] ∧ 0 ≤ i ∧ i + m = 2) (fun l => ∃ w1 w2 w3 w4 w5 w6 w7 w8 w9, l = [.i 1, w1, w2, w3, w4, w5, w6, w7, w8, w9]) 2 (by omega) ?_ ?_ ?_
                    · exact ⟨0, by simp only [X.den, X.dens, X.denss, D.int_i, D.boo_b, D.str_s, D.rows_l, List.getD_cons_zero, List.getD_cons_succ, List.cons_append, List.nil_append, List.append_nil, List.length_cons, List.length_nil], by omega, by omega⟩
                    · rintro m l ρ2 ⟨k, rfl, k0, k1⟩ eρ
                      simp only [List.cons_append, List.nil_append] at eρ
                      subst eρ
                      refine To.ite (fun c => ?_) (fun c => ?_) <;> simp only [X.den, X.dens, X.denss, D.int_i, D.boo_b, D.str_s, D.rows_l, List.getD_cons_zero, List.getD_cons_succ, List.cons_append, List.nil_append, List.append_nil, List.length_cons, List.length_nil, decide_eq_true_eq, decide_eq_false_iff_not, Bool.not_eq_true', Bool.not_eq_false', Bool.and_eq_true, Bool.and_eq_false_iff, Bool.true_eq_false, Bool.false_eq_true, Bool.not_true, Bool.not_false, eq_self] at c
                      · refine To.joinK (fun l => ∃ s, l = [s, s]) ?_ ?_
                        · refine To.ite (fun c => ?_) (fun c => ?_)
                          · exact To.ret ⟨rfl, _, rfl⟩
                          · exact To.ret ⟨rfl, _, rfl⟩
                        rintro l ρ2 ⟨s, rfl⟩ eρ
                        simp only [List.cons_append, List.nil_append] at eρ
                        subst eρ
                        refine To.viaK (by (try simp (disch := omega) only [X.den, X.dens, X.denss, D.int_i, D.boo_b, D.str_s, D.rows_l, List.getD_cons_zero, List.getD_cons_succ, List.cons_append, List.nil_append, List.append_nil, List.length_cons, List.length_nil, decide_eq_true_eq, decide_eq_false_iff_not, Bool.not_eq_true', Bool.not_eq_false', Bool.and_eq_true, Bool.and_eq_false_iff, Bool.true_eq_false, Bool.false_eq_true, Bool.not_true, Bool.not_false, eq_self, D.len_l, wr64, not_true_eq_false, not_false_eq_true]); exact lf_to he) ?_
                        rintro _ ρ2 rfl eρ
                        refine ⟨rfl, ?_⟩
                        simp only [List.cons_append, List.nil_append] at eρ
                        subst eρ
                        refine To.viaK (by (try simp (disch := omega) only [X.den, X.dens, X.denss, D.int_i, D.boo_b, D.str_s, D.rows_l, List.getD_cons_zero, List.getD_cons_succ, List.cons_append, List.nil_append, List.append_nil, List.length_cons, List.length_nil, decide_eq_true_eq, decide_eq_false_iff_not, Bool.not_eq_true', Bool.not_eq_false', Bool.and_eq_true, Bool.and_eq_false_iff, Bool.true_eq_false, Bool.false_eq_true, Bool.not_true, Bool.not_false, eq_self, D.len_l, wr64, not_true_eq_false, not_false_eq_true]); exact lf_to he) ?_
                        rintro _ ρ2 rfl eρ
                        refine ⟨rfl, ?_⟩
                        simp only [List.cons_append, List.nil_append] at eρ
                        subst eρ
                        refine To.yes (by simp only [X.den, X.dens, X.denss, D.int_i, D.boo_b, D.str_s, D.rows_l, List.getD_cons_zero, List.getD_cons_succ, List.cons_append, List.nil_append, List.append_nil, List.length_cons, List.length_nil]; simp) (To.ret (.inl ⟨rfl, m - 1, by omega, k + 1, ?_, by omega, by omega⟩))
                        simp only [X.den, X.dens, X.denss, D.int_i, D.boo_b, D.str_s, D.rows_l, List.getD_cons_zero, List.getD_cons_succ, List.cons_append, List.nil_append, List.append_nil, List.length_cons, List.length_nil]
                      · exact To.ret (.inr ⟨rfl, _, _, _, _, _, _, _, _, _, rfl⟩)
                    · rintro l ρ2 ⟨w1, w2, w3, w4, w5, w6, w7, w8, w9, rfl⟩ eρ
                      simp only [List.cons_append, List.nil_append] at eρ
                      subst eρ
                      exact ⟨rfl, To.no rfl (To.ret ⟨rfl, t3, _, by simp only [X.den, X.dens, X.denss, D.int_i, D.boo_b, D.str_s, D.rows_l, List.getD_cons_zero, List.getD_cons_succ, List.cons_append, List.nil_append, List.append_nil, List.length_cons, List.length_nil]; rfl, h3⟩)⟩
                  rintro l ρ2 ⟨at3, rest, rfl, hs3⟩ eρ
                  simp only [List.cons_append, List.nil_append] at eρ
                  subst eρ
                  refine To.no rfl (To.ret (.inl ⟨rfl, m - 1, by omega, at3, j + 1, ?_, hs3, by omega, by omega⟩))
                  simp only [X.den, X.dens, X.denss, D.int_i, D.boo_b, D.str_s, D.rows_l, List.getD_cons_zero, List.getD_cons_succ, List.cons_append, List.nil_append, List.append_nil, List.length_cons, List.length_nil]
                · exact To.ret (.inr ⟨rfl, at2, _, by simp only [X.den, X.dens, X.denss, D.int_i, D.boo_b, D.str_s, D.rows_l, List.getD_cons_zero, List.getD_cons_succ, List.cons_append, List.nil_append, List.append_nil, List.length_cons, List.length_nil]; rfl, rfl, hs2⟩)
              · rintro l ρ2 ⟨at3, rest, rfl, hr, hs3⟩ eρ
                simp only [List.cons_append, List.nil_append] at eρ
                subst eρ
                exact ⟨by simp [hr], To.no rfl (To.ret ⟨rfl, at3, _, by simp only [X.den, X.dens, X.denss, D.int_i, D.boo_b, D.str_s, D.rows_l, List.getD_cons_zero, List.getD_cons_succ, List.cons_append, List.nil_append, List.append_nil, List.length_cons, List.length_nil]; rfl, hs3⟩)⟩
            rintro l ρ2 ⟨at3, rest, rfl, hs3⟩ eρ
            simp only [List.cons_append, List.nil_append] at eρ
            subst eρ
            refine To.yes rfl (To.ret (.inl ⟨rfl, m - 1, by omega, at3, i + 1, ?_, hs3, by omega, by omega⟩))
            simp only [X.den, X.dens, X.denss, D.int_i, D.boo_b, D.str_s, D.rows_l, List.getD_cons_zero, List.getD_cons_succ, List.cons_append, List.nil_append, List.append_nil, List.length_cons, List.length_nil]
          · exact To.ret (.inr ⟨rfl, _, _, _, _, _, _, rfl⟩)
        · rintro l ρ2 ⟨z1, z2, z3, z4, z5, z6, rfl⟩ eρ
          simp only [List.cons_append, List.nil_append] at eρ
          subst eρ
          refine ⟨rfl, To.no rfl (To.callK (l := [.b true]) hs rfl _ (by simp only [List.cons_append, List.nil_append]; first | done | rfl) (To.ret ?_))⟩
          simp only [X.den, X.dens, X.denss, D.int_i, D.boo_b, D.str_s, D.rows_l, List.getD_cons_zero, List.getD_cons_succ, List.cons_append, List.nil_append, List.append_nil, List.length_cons, List.length_nil]
      · cases h
    · cases h
def CircleExact_ps : List PK := cxExact_K.ps
theorem CircleExact_all : Fx.LawOk Try.prog 5 CircleExact_ps :=
  law_all cx_ok rfl (by kernel_rfl) fun ds hw => by
    have hw' : WfR [.sl [.int .i64], .int .i64, .int .i64, .int .i64, .int .i64, .int .i64, .int .i64, .int .i64, .int .i64, .int .i64, .int .i64] ds := hw
    simp only [WfR, WfC] at hw'
    obtain ⟨d0, ds0, rfl, ⟨rows, rfl, _, _⟩, d1, ds1, rfl, _, d2, ds2, rfl, _, d3, ds3, rfl, _, d4, ds4, rfl, _, d5, ds5, rfl, _, d6, ds6, rfl, _, d7, ds7, rfl, ⟨z, rfl, hz⟩, d8, ds8, rfl, _, d9, ds9, rfl, _, d10, ds10, rfl, _, rfl⟩ := hw'
    have := bounds_i64 hz
    exact if_pos (by unfold I64; simp only [D.int_i]; omega)
end Go.Proofs.Ytbojkmgllihhiaa
