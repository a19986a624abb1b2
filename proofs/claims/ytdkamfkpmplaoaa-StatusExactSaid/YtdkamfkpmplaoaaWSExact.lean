/- StatusExact: all functions for any classes, times, levels and delays: the program's give what the reference's give. -/
import Derived.Test.YtdkamfkpmplaoaaStT8
set_option linter.unusedVariables false
set_option linter.unusedSimpArgs false
set_option maxRecDepth 100000
namespace Go.Proofs.Ytdkamfkpmplaoaa
open Go.RowKit Fx
noncomputable def seM : Models := Models.on srcN_K.f (srcN_T.run noM 0) (Models.on sEst_K.f (sEst_T.run srcM 0) (Models.on pvS_K.f (B3 vdS) (Models.on rvS_K.f (B3 vdS) (Models.on pnS_K.f (FL5 nxT) (Models.on rnS_K.f (FL5 nxT) (Models.on peS_K.f (B3 enS) (Models.on reS_K.f (B3 enS) (Models.on prS_K.f (prS_T.run prM 2000) (Models.on rrS_K.f (rrS_T.run rrM 2000) (Models.on pjS_K.f jdM (Models.on rjS_K.f jdM (Models.on ints_K.f (ints_T.run noM 2000) (Models.on levels_K.f (levels_T.run srcM 100) (Models.on sane28_K.f saneR noM))))))))))))))
def SeC (l : List (List D)) : Prop := ∃ zs, l = nums zs
open Classical in
noncomputable def seR : List D → Option (List D) := fun ds => match ds with
  | [.l rows, .i c1, .i c2, .i ti, .i ju, .i de, .l raw, e1, e2, e3, e4, e5, ho, sa] => if SeC raw then some [.b true] else none
  | _ => none
theorem src_take28 {rows : List (List D)} : SrcOk (rows.take (min (min (rows.length : Int) 9223372036854775807) 600).toNat) 0 := ⟨by omega, by omega, by rw [List.length_take]; omega⟩
set_option maxHeartbeats 8000000 in
theorem se_ok : ConOk Try.prog sExact_K seR :=
  con_of follows (M := seM) (one_con (srcN_ok.to _) (one_con (sEst_ok.to _) (one_con (pvS_ok.to _) (one_con (rvS_ok.to _) (one_con (pnS_ok.to _) (one_con (rnS_ok.to _) (one_con (peS_ok.to _) (one_con (reS_ok.to _) (one_con (prS_ok.to _) (one_con (rrS_ok.to _) (one_con (pjS_ok.to _) (one_con (rjS_ok.to _) (one_con (ints_ok.to _) (one_con (levels_ok.to _) (one_con (sane28_ok.to _) no_cons))))))))))))))) sExact_t fun ds outs hl h => by
    unfold seR at h
    split at h
    · rename_i rows c1 c2 ti ju de raw e1 e2 e3 e4 e5 ho sa
      split at h
      · rename_i hb
        injection h with h
        subst h
        obtain ⟨ls, rfl⟩ := hb
        have hs : saneR [] = some [D.b true] := if_pos rfl
        refine ⟨fun i l h k => by simp [sExact_K] at k, 10, ?_⟩
        unfold sExact_T
        refine To.joinK (fun o => ∃ v, o = [.b v] ∧ (v = false → ls.length ≤ 450)) ?_ ?_
        · (repeat' (first
              
              | (refine To.subK (fun K hK => ?_))
              | (refine To.need (by simp (disch := omega) only [X.den, X.dens, X.denss, D.int_i, D.boo_b, D.str_s, D.rows_l, List.getD_cons_zero, List.getD_cons_succ, List.cons_append, List.nil_append, List.append_nil, List.length_cons, List.length_nil, decide_eq_true_eq, decide_eq_false_iff_not, Bool.not_eq_true', Bool.not_eq_false', Bool.and_eq_true, Bool.and_eq_false_iff, Bool.true_eq_false, Bool.false_eq_true, Bool.not_true, Bool.not_false, eq_self, D.len_l, wr64, not_true_eq_false, not_false_eq_true, nums_len] <;> omega) ?_)
              | (refine To.ite (fun c => ?_) (fun c => ?_) <;> ((try simp (disch := omega) only [X.den, X.dens, X.denss, D.int_i, D.boo_b, D.str_s, D.rows_l, List.getD_cons_zero, List.getD_cons_succ, List.cons_append, List.nil_append, List.append_nil, List.length_cons, List.length_nil, decide_eq_true_eq, decide_eq_false_iff_not, Bool.not_eq_true', Bool.not_eq_false', Bool.and_eq_true, Bool.and_eq_false_iff, Bool.true_eq_false, Bool.false_eq_true, Bool.not_true, Bool.not_false, eq_self, D.len_l, wr64, not_true_eq_false, not_false_eq_true, nums_len] at c) <;> (try (exfalso; omega))))
              | (refine To.ret ⟨rfl, ?_⟩; (try simp (disch := omega) only [X.den, X.dens, X.denss, D.int_i, D.boo_b, D.str_s, D.rows_l, List.getD_cons_zero, List.getD_cons_succ, List.cons_append, List.nil_append, List.append_nil, List.length_cons, List.length_nil, decide_eq_true_eq, decide_eq_false_iff_not, Bool.not_eq_true', Bool.not_eq_false', Bool.and_eq_true, Bool.and_eq_false_iff, Bool.true_eq_false, Bool.false_eq_true, Bool.not_true, Bool.not_false, eq_self, D.len_l, wr64, not_true_eq_false, not_false_eq_true, nums_len]); refine hK _ _ (by simp only [List.cons_append, List.nil_append]; first | done | rfl) ?_; clear hK; clear K)))
          all_goals
            refine To.ret ⟨rfl, _, by simp only [X.den, X.dens, X.denss, D.int_i, D.boo_b, D.str_s, D.rows_l, List.getD_cons_zero, List.getD_cons_succ, List.cons_append, List.nil_append, List.append_nil, List.length_cons, List.length_nil]; rfl, fun h => ?_⟩
            (try simp only [decide_eq_true_eq, decide_eq_false_iff_not, Bool.not_eq_true', Bool.not_eq_false', Bool.and_eq_true, Bool.and_eq_false_iff, Bool.true_eq_false, Bool.false_eq_true, Bool.not_true, Bool.not_false, eq_self, D.len_l, nums_len] at h) <;> omega
        rintro o ρ2 ⟨v, rfl, hv⟩ eρ
        simp only [List.cons_append, List.nil_append] at eρ
        subst eρ
        refine To.ite (fun c => ?_) (fun c => ?_) <;> simp only [X.den, X.dens, X.denss, D.int_i, D.boo_b, D.str_s, D.rows_l, List.getD_cons_zero, List.getD_cons_succ, List.cons_append, List.nil_append, List.append_nil, List.length_cons, List.length_nil] at c
        · refine To.callK (l := [.b true]) hs rfl _ (by simp only [List.cons_append, List.nil_append]; first | done | rfl) ?_
          exact To.ret (by simp only [X.den, X.dens, X.denss, D.int_i, D.boo_b, D.str_s, D.rows_l, List.getD_cons_zero, List.getD_cons_succ, List.cons_append, List.nil_append, List.append_nil, List.length_cons, List.length_nil])
        have n1 := hv c
        refine To.need (by simp only [X.den, X.dens, X.denss, D.int_i, D.boo_b, D.str_s, D.rows_l, List.getD_cons_zero, List.getD_cons_succ, List.cons_append, List.nil_append, List.append_nil, List.length_cons, List.length_nil, decide_eq_true_eq, decide_eq_false_iff_not, Bool.not_eq_true', Bool.not_eq_false', Bool.and_eq_true, Bool.and_eq_false_iff, Bool.true_eq_false, Bool.false_eq_true, Bool.not_true, Bool.not_false, eq_self, D.len_l]; omega) ?_
        refine To.viaK (by (try simp (disch := omega) only [X.den, X.dens, X.denss, D.int_i, D.boo_b, D.str_s, D.rows_l, List.getD_cons_zero, List.getD_cons_succ, List.cons_append, List.nil_append, List.append_nil, List.length_cons, List.length_nil, decide_eq_true_eq, decide_eq_false_iff_not, Bool.not_eq_true', Bool.not_eq_false', Bool.and_eq_true, Bool.and_eq_false_iff, Bool.true_eq_false, Bool.false_eq_true, Bool.not_true, Bool.not_false, eq_self, D.len_l, wr64, not_true_eq_false, not_false_eq_true]); exact srcN_to src_take28 (by omega) (by omega)) ?_
        rintro _ ρ2 ⟨g1, t1, rfl, p1, q1, h1⟩ eρ
        refine ⟨rfl, ?_⟩
        simp only [List.cons_append, List.nil_append] at eρ
        subst eρ
        generalize (List.take _ _ : List (List D)) = rs at h1 ⊢
        refine To.viaK (by (try simp (disch := omega) only [X.den, X.dens, X.denss, D.int_i, D.boo_b, D.str_s, D.rows_l, List.getD_cons_zero, List.getD_cons_succ, List.cons_append, List.nil_append, List.append_nil, List.length_cons, List.length_nil, decide_eq_true_eq, decide_eq_false_iff_not, Bool.not_eq_true', Bool.not_eq_false', Bool.and_eq_true, Bool.and_eq_false_iff, Bool.true_eq_false, Bool.false_eq_true, Bool.not_true, Bool.not_false, eq_self, D.len_l, wr64, not_true_eq_false, not_false_eq_true]); exact srcN_to h1 (by omega) (by omega)) ?_
        rintro _ ρ2 ⟨g2, t2, rfl, p2, q2, h2⟩ eρ
        refine ⟨rfl, ?_⟩
        simp only [List.cons_append, List.nil_append] at eρ
        subst eρ
        refine To.loopK (fun m o => ∃ t i : Int, o = [.l rs, .i t, .i i] ∧ SrcOk rs t ∧ 0 ≤ i ∧ i + m = 2) (fun o => ∃ t : Int, o = [.i 1, .l rs, .i t, .i 0, .i 0] ∧ SrcOk rs t) 2 (by omega) ?_ ?_ ?_
        · exact ⟨t2, 0, by simp only [X.den, X.dens, X.denss, D.int_i, D.boo_b, D.str_s, D.rows_l, List.getD_cons_zero, List.getD_cons_succ, List.cons_append, List.nil_append, List.append_nil, List.length_cons, List.length_nil], h2, by omega, by omega⟩
        · rintro m o ρ2 ⟨t3, i, rfl, h3, i0, i1⟩ eρ
          simp only [List.cons_append, List.nil_append] at eρ
          subst eρ
          refine To.ite (fun c => ?_) (fun c => ?_) <;> simp only [X.den, X.dens, X.denss, D.int_i, D.boo_b, D.str_s, D.rows_l, List.getD_cons_zero, List.getD_cons_succ, List.cons_append, List.nil_append, List.append_nil, List.length_cons, List.length_nil, decide_eq_true_eq, decide_eq_false_iff_not, Bool.not_eq_true', Bool.not_eq_false', Bool.and_eq_true, Bool.and_eq_false_iff, Bool.true_eq_false, Bool.false_eq_true, Bool.not_true, Bool.not_false, eq_self] at c
          · refine To.joinK (fun o => ∃ a b : Int, o = [.i a, .i b, .i a, .i b]) ?_ ?_
            · exact To.ite (fun c => To.ret ⟨rfl, c1, c2, rfl⟩) (fun c => To.ret ⟨rfl, _, _, rfl⟩)
            rintro o ρ2 ⟨a, b, rfl⟩ eρ
            simp only [List.cons_append, List.nil_append] at eρ
            subst eρ
            refine To.viaK (by (try simp (disch := omega) only [X.den, X.dens, X.denss, D.int_i, D.boo_b, D.str_s, D.rows_l, List.getD_cons_zero, List.getD_cons_succ, List.cons_append, List.nil_append, List.append_nil, List.length_cons, List.length_nil, decide_eq_true_eq, decide_eq_false_iff_not, Bool.not_eq_true', Bool.not_eq_false', Bool.and_eq_true, Bool.and_eq_false_iff, Bool.true_eq_false, Bool.false_eq_true, Bool.not_true, Bool.not_false, eq_self, D.len_l, wr64, not_true_eq_false, not_false_eq_true]); exact srcN_to h3 (by omega) (by omega)) ?_
            rintro _ ρ2 ⟨g4, t4, rfl, p4, q4, h4⟩ eρ
            refine ⟨rfl, ?_⟩
            simp only [List.cons_append, List.nil_append] at eρ
            subst eρ
            refine To.loopK (fun m o => ∃ t i : Int, o = [.l rs, .i t, .i i] ∧ SrcOk rs t ∧ 0 ≤ i ∧ i + m = 2) (fun o => ∃ t rest, o = .i 1 :: .l rs :: .i t :: rest ∧ rest.length = 9 ∧ SrcOk rs t) 2 (by omega) ?_ ?_ ?_
            · exact ⟨t4, 0, by simp only [X.den, X.dens, X.denss, D.int_i, D.boo_b, D.str_s, D.rows_l, List.getD_cons_zero, List.getD_cons_succ, List.cons_append, List.nil_append, List.append_nil, List.length_cons, List.length_nil], h4, by omega, by omega⟩
            · rintro m o ρ2 ⟨t5, j, rfl, h5, j0, j1⟩ eρ
              simp only [List.cons_append, List.nil_append] at eρ
              subst eρ
              refine To.ite (fun c => ?_) (fun c => ?_) <;> simp only [X.den, X.dens, X.denss, D.int_i, D.boo_b, D.str_s, D.rows_l, List.getD_cons_zero, List.getD_cons_succ, List.cons_append, List.nil_append, List.append_nil, List.length_cons, List.length_nil, decide_eq_true_eq, decide_eq_false_iff_not, Bool.not_eq_true', Bool.not_eq_false', Bool.and_eq_true, Bool.and_eq_false_iff, Bool.true_eq_false, Bool.false_eq_true, Bool.not_true, Bool.not_false, eq_self] at c
              · refine To.joinK (fun o => ∃ t rest, o = .i 0 :: .l rs :: .i t :: rest ∧ SrcOk rs t) ?_ ?_
                · refine To.joinK (fun o => ∃ y : Int, o = [.i y, .i y]) ?_ ?_
                  · exact To.ite (fun c => To.ret ⟨rfl, ti, rfl⟩) (fun c => To.ret ⟨rfl, _, rfl⟩)
                  rintro o ρ2 ⟨y, rfl⟩ eρ
                  simp only [List.cons_append, List.nil_append] at eρ
                  subst eρ
                  refine To.callX rfl (fun ρ2 eρ => ⟨rfl, ?_⟩)
                  simp only [X.den, X.dens, X.denss, D.int_i, D.boo_b, D.str_s, D.rows_l, List.getD_cons_zero, List.getD_cons_succ, List.cons_append, List.nil_append, List.append_nil, List.length_cons, List.length_nil, ia] at eρ
                  subst eρ
                  refine To.callX rfl (fun ρ2 eρ => ⟨rfl, ?_⟩)
                  simp only [X.den, X.dens, X.denss, D.int_i, D.boo_b, D.str_s, D.rows_l, List.getD_cons_zero, List.getD_cons_succ, List.cons_append, List.nil_append, List.append_nil, List.length_cons, List.length_nil, ia] at eρ
                  subst eρ
                  refine To.yes (by simp only [X.den, X.dens, X.denss, D.int_i, D.boo_b, D.str_s, D.rows_l, List.getD_cons_zero, List.getD_cons_succ, List.cons_append, List.nil_append, List.append_nil, List.length_cons, List.length_nil]; simp) ?_
                  refine To.viaK (by (try simp (disch := omega) only [X.den, X.dens, X.denss, D.int_i, D.boo_b, D.str_s, D.rows_l, List.getD_cons_zero, List.getD_cons_succ, List.cons_append, List.nil_append, List.append_nil, List.length_cons, List.length_nil, decide_eq_true_eq, decide_eq_false_iff_not, Bool.not_eq_true', Bool.not_eq_false', Bool.and_eq_true, Bool.and_eq_false_iff, Bool.true_eq_false, Bool.false_eq_true, Bool.not_true, Bool.not_false, eq_self, D.len_l, wr64, not_true_eq_false, not_false_eq_true]); exact srcN_to h5 (by omega) (by omega)) ?_
                  rintro _ ρ2 ⟨g6, t6, rfl, p6, q6, h6⟩ eρ
                  refine ⟨rfl, ?_⟩
                  simp only [List.cons_append, List.nil_append] at eρ
                  subst eρ
                  refine To.loopK (fun m o => ∃ t i : Int, o = [.l rs, .i t, .i i] ∧ SrcOk rs t ∧ 0 ≤ i ∧ i + m = 2) (fun o => ∃ t rest, o = .i 1 :: .l rs :: .i t :: rest ∧ rest.length = 47 ∧ SrcOk rs t) 2 (by omega) ?_ ?_ ?_
                  · exact ⟨t6, 0, by simp only [X.den, X.dens, X.denss, D.int_i, D.boo_b, D.str_s, D.rows_l, List.getD_cons_zero, List.getD_cons_succ, List.cons_append, List.nil_append, List.append_nil, List.length_cons, List.length_nil], h6, by omega, by omega⟩
                  · rintro m o ρ2 ⟨t7, k, rfl, h7, k0, k1⟩ eρ
                    simp only [List.cons_append, List.nil_append] at eρ
                    subst eρ
                    refine To.ite (fun c => ?_) (fun c => ?_) <;> simp only [X.den, X.dens, X.denss, D.int_i, D.boo_b, D.str_s, D.rows_l, List.getD_cons_zero, List.getD_cons_succ, List.cons_append, List.nil_append, List.append_nil, List.length_cons, List.length_nil, decide_eq_true_eq, decide_eq_false_iff_not, Bool.not_eq_true', Bool.not_eq_false', Bool.and_eq_true, Bool.and_eq_false_iff, Bool.true_eq_false, Bool.false_eq_true, Bool.not_true, Bool.not_false, eq_self] at c
                    · refine To.joinK (fun o => ∃ z : Int, o = [.i z, .i z]) ?_ ?_
                      · exact To.ite (fun c => To.ret ⟨rfl, ju, rfl⟩) (fun c => To.ret ⟨rfl, _, rfl⟩)
                      rintro o ρ2 ⟨z, rfl⟩ eρ
                      simp only [List.cons_append, List.nil_append] at eρ
                      subst eρ
                      refine To.viaK (by (try simp (disch := omega) only [X.den, X.dens, X.denss, D.int_i, D.boo_b, D.str_s, D.rows_l, List.getD_cons_zero, List.getD_cons_succ, List.cons_append, List.nil_append, List.append_nil, List.length_cons, List.length_nil, decide_eq_true_eq, decide_eq_false_iff_not, Bool.not_eq_true', Bool.not_eq_false', Bool.and_eq_true, Bool.and_eq_false_iff, Bool.true_eq_false, Bool.false_eq_true, Bool.not_true, Bool.not_false, eq_self, D.len_l, wr64, not_true_eq_false, not_false_eq_true]); exact srcN_to h7 (by omega) (by omega)) ?_
                      rintro _ ρ2 ⟨g8, t8, rfl, p8, q8, h8⟩ eρ
                      refine ⟨rfl, ?_⟩
                      simp only [List.cons_append, List.nil_append] at eρ
                      subst eρ
                      refine To.loopK (fun m o => ∃ k : Int, o = [.i k] ∧ 0 ≤ k ∧ k + m = 2) (fun o => ∃ rest, o = .i 1 :: rest ∧ rest.length = 39) 2 (by omega) ?_ ?_ ?_
                      · exact ⟨0, by simp only [X.den, X.dens, X.denss, D.int_i, D.boo_b, D.str_s, D.rows_l, List.getD_cons_zero, List.getD_cons_succ, List.cons_append, List.nil_append, List.append_nil, List.length_cons, List.length_nil], by omega, by omega⟩
                      · rintro m o ρ2 ⟨u, rfl, u0, u1⟩ eρ
                        simp only [List.cons_append, List.nil_append] at eρ
                        subst eρ
                        refine To.ite (fun c => ?_) (fun c => ?_) <;> simp only [X.den, X.dens, X.denss, D.int_i, D.boo_b, D.str_s, D.rows_l, List.getD_cons_zero, List.getD_cons_succ, List.cons_append, List.nil_append, List.append_nil, List.length_cons, List.length_nil, decide_eq_true_eq, decide_eq_false_iff_not, Bool.not_eq_true', Bool.not_eq_false', Bool.and_eq_true, Bool.and_eq_false_iff, Bool.true_eq_false, Bool.false_eq_true, Bool.not_true, Bool.not_false, eq_self] at c
                        · refine To.joinK (fun o => ∃ d : Int, o = [.i d, .i d]) ?_ ?_
                          · exact To.ite (fun c => To.ret ⟨rfl, de, rfl⟩) (fun c => To.ret ⟨rfl, g8, rfl⟩)
                          rintro o ρ2 ⟨d, rfl⟩ eρ
                          simp only [List.cons_append, List.nil_append] at eρ
                          subst eρ
                          refine To.viaK (by (try simp (disch := omega) only [X.den, X.dens, X.denss, D.int_i, D.boo_b, D.str_s, D.rows_l, List.getD_cons_zero, List.getD_cons_succ, List.cons_append, List.nil_append, List.append_nil, List.length_cons, List.length_nil, decide_eq_true_eq, decide_eq_false_iff_not, Bool.not_eq_true', Bool.not_eq_false', Bool.and_eq_true, Bool.and_eq_false_iff, Bool.true_eq_false, Bool.false_eq_true, Bool.not_true, Bool.not_false, eq_self, D.len_l, wr64, not_true_eq_false, not_false_eq_true]); exact nx_to) ?_
                          rintro _ ρ2 rfl eρ
                          refine ⟨rfl, ?_⟩
                          simp only [List.cons_append, List.nil_append] at eρ
                          subst eρ
                          refine To.viaK (by (try simp (disch := omega) only [X.den, X.dens, X.denss, D.int_i, D.boo_b, D.str_s, D.rows_l, List.getD_cons_zero, List.getD_cons_succ, List.cons_append, List.nil_append, List.append_nil, List.length_cons, List.length_nil, decide_eq_true_eq, decide_eq_false_iff_not, Bool.not_eq_true', Bool.not_eq_false', Bool.and_eq_true, Bool.and_eq_false_iff, Bool.true_eq_false, Bool.false_eq_true, Bool.not_true, Bool.not_false, eq_self, D.len_l, wr64, not_true_eq_false, not_false_eq_true]); exact nx_to) ?_
                          rintro _ ρ2 rfl eρ
                          refine ⟨rfl, ?_⟩
                          simp only [List.cons_append, List.nil_append] at eρ
                          subst eρ
                          refine To.joinK (fun o => ∃ z1 z2, o = [z1, z2, .b false]) ?_ ?_
                          · refine To.yes (by simp only [X.den, X.dens, X.denss, D.int_i, D.boo_b, D.str_s, D.rows_l, List.getD_cons_zero, List.getD_cons_succ, List.cons_append, List.nil_append, List.append_nil, List.length_cons, List.length_nil]; simp) ?_
                            refine To.yes (by simp only [X.den, X.dens, X.denss, D.int_i, D.boo_b, D.str_s, D.rows_l, List.getD_cons_zero, List.getD_cons_succ, List.cons_append, List.nil_append, List.append_nil, List.length_cons, List.length_nil]; simp) ?_
                            refine To.callX rfl (fun ρ2 eρ => ⟨rfl, ?_⟩)
                            simp only [X.den, X.dens, X.denss, D.int_i, D.boo_b, D.str_s, D.rows_l, List.getD_cons_zero, List.getD_cons_succ, List.cons_append, List.nil_append, List.append_nil, List.length_cons, List.length_nil, ia] at eρ
                            subst eρ
                            refine To.callX rfl (fun ρ2 eρ => ⟨rfl, ?_⟩)
                            simp only [X.den, X.dens, X.denss, D.int_i, D.boo_b, D.str_s, D.rows_l, List.getD_cons_zero, List.getD_cons_succ, List.cons_append, List.nil_append, List.append_nil, List.length_cons, List.length_nil, ia] at eρ
                            subst eρ
                            refine To.ret ⟨rfl, ?_⟩
                            simp only [X.den, X.dens, X.denss, D.int_i, D.boo_b, D.str_s, D.rows_l, List.getD_cons_zero, List.getD_cons_succ, List.cons_append, List.nil_append, List.append_nil, List.length_cons, List.length_nil, beq_self_eq_true, Bool.not_true]
                            exact ⟨_, _, rfl⟩
                          rintro o ρ2 ⟨z1, z2, rfl⟩ eρ
                          simp only [List.cons_append, List.nil_append] at eρ
                          subst eρ
                          refine To.no rfl (To.ret (.inl ⟨rfl, m - 1, by omega, u + 1, by simp only [X.den, X.dens, X.denss, D.int_i, D.boo_b, D.str_s, D.rows_l, List.getD_cons_zero, List.getD_cons_succ, List.cons_append, List.nil_append, List.append_nil, List.length_cons, List.length_nil], by omega, by omega⟩))
                        · exact To.ret (.inr ⟨rfl, _, rfl, rfl⟩)
                      · rintro o ρ2 ⟨rest, rfl, hr⟩ eρ
                        simp only [List.cons_append, List.nil_append] at eρ
                        subst eρ
                        refine ⟨by simp [hr], ?_⟩
                        refine To.no rfl (To.ret (.inl ⟨rfl, m - 1, by omega, t8, k + 1, by simp only [X.den, X.dens, X.denss, D.int_i, D.boo_b, D.str_s, D.rows_l, List.getD_cons_zero, List.getD_cons_succ, List.cons_append, List.nil_append, List.append_nil, List.length_cons, List.length_nil], h8, by omega, by omega⟩))
                    · exact To.ret (.inr ⟨rfl, t7, _, rfl, rfl, h7⟩)
                  · rintro o ρ2 ⟨t9, rest, rfl, hr, h9⟩ eρ
                    simp only [List.cons_append, List.nil_append] at eρ
                    subst eρ
                    exact ⟨by simp [hr], To.no rfl (To.ret ⟨rfl, t9, _, rfl, h9⟩)⟩
                rintro o ρ2 ⟨t9, rest, rfl, h9⟩ eρ
                simp only [List.cons_append, List.nil_append] at eρ
                subst eρ
                refine To.yes rfl (To.ret (.inl ⟨rfl, m - 1, by omega, t9, j + 1, by simp only [X.den, X.dens, X.denss, D.int_i, D.boo_b, D.str_s, D.rows_l, List.getD_cons_zero, List.getD_cons_succ, List.cons_append, List.nil_append, List.append_nil, List.length_cons, List.length_nil], h9, by omega, by omega⟩))
              · exact To.ret (.inr ⟨rfl, t5, _, rfl, rfl, h5⟩)
            · rintro o ρ2 ⟨t9, rest, rfl, hr, h9⟩ eρ
              simp only [List.cons_append, List.nil_append] at eρ
              subst eρ
              refine ⟨by simp [hr], ?_⟩
              refine To.no rfl (To.ret (.inl ⟨rfl, m - 1, by omega, t9, i + 1, by simp only [X.den, X.dens, X.denss, D.int_i, D.boo_b, D.str_s, D.rows_l, List.getD_cons_zero, List.getD_cons_succ, List.cons_append, List.nil_append, List.append_nil, List.length_cons, List.length_nil], h9, by omega, by omega⟩))
          · exact To.ret (.inr ⟨rfl, t3, by simp only [X.den, X.dens, X.denss, D.int_i, D.boo_b, D.str_s, D.rows_l, List.getD_cons_zero, List.getD_cons_succ, List.cons_append, List.nil_append, List.append_nil, List.length_cons, List.length_nil], h3⟩)
        rintro o ρ2 ⟨t3, rfl, h3⟩ eρ
        simp only [List.cons_append, List.nil_append] at eρ
        subst eρ
        refine ⟨rfl, To.no rfl ?_⟩
        refine To.viaK (by (try simp (disch := omega) only [X.den, X.dens, X.denss, D.int_i, D.boo_b, D.str_s, D.rows_l, List.getD_cons_zero, List.getD_cons_succ, List.cons_append, List.nil_append, List.append_nil, List.length_cons, List.length_nil, decide_eq_true_eq, decide_eq_false_iff_not, Bool.not_eq_true', Bool.not_eq_false', Bool.and_eq_true, Bool.and_eq_false_iff, Bool.true_eq_false, Bool.false_eq_true, Bool.not_true, Bool.not_false, eq_self, D.len_l, wr64, not_true_eq_false, not_false_eq_true]); exact levels_to h3 (by omega)) ?_
        rintro _ ρ2 ⟨vs, t4, rfl, em, h4⟩ eρ
        refine ⟨rfl, ?_⟩
        simp only [List.cons_append, List.nil_append] at eρ
        subst eρ
        refine To.loopK (fun m o => ∃ t i : Int, o = [.l rs, .i t, .i i] ∧ SrcOk rs t ∧ 0 ≤ i ∧ i + m = 2) (fun o => ∃ t : Int, o = [.i 1, .l rs, .i t] ∧ SrcOk rs t) 2 (by omega) ?_ ?_ ?_
        · exact ⟨t4, 0, by simp only [X.den, X.dens, X.denss, D.int_i, D.boo_b, D.str_s, D.rows_l, List.getD_cons_zero, List.getD_cons_succ, List.cons_append, List.nil_append, List.append_nil, List.length_cons, List.length_nil], h4, by omega, by omega⟩
        · rintro m o ρ2 ⟨t5, i, rfl, h5, i0, i1⟩ eρ
          simp only [List.cons_append, List.nil_append] at eρ
          subst eρ
          refine To.ite (fun c => ?_) (fun c => ?_) <;> simp only [X.den, X.dens, X.denss, D.int_i, D.boo_b, D.str_s, D.rows_l, List.getD_cons_zero, List.getD_cons_succ, List.cons_append, List.nil_append, List.append_nil, List.length_cons, List.length_nil, decide_eq_true_eq, decide_eq_false_iff_not, Bool.not_eq_true', Bool.not_eq_false', Bool.and_eq_true, Bool.and_eq_false_iff, Bool.true_eq_false, Bool.false_eq_true, Bool.not_true, Bool.not_false, eq_self] at c
          · refine To.joinK (fun o => ∃ us : List Int, o = [.l (nums us), .l (nums us)] ∧ us.length ≤ 1000) ?_ ?_
            · exact To.ite (fun c => To.ret ⟨rfl, ls, rfl, by omega⟩) (fun c => To.ret ⟨rfl, vs, rfl, by omega⟩)
            rintro o ρ2 ⟨us, rfl, hu⟩ eρ
            simp only [List.cons_append, List.nil_append] at eρ
            subst eρ
            refine To.viaK (by (try simp (disch := omega) only [X.den, X.dens, X.denss, D.int_i, D.boo_b, D.str_s, D.rows_l, List.getD_cons_zero, List.getD_cons_succ, List.cons_append, List.nil_append, List.append_nil, List.length_cons, List.length_nil, decide_eq_true_eq, decide_eq_false_iff_not, Bool.not_eq_true', Bool.not_eq_false', Bool.and_eq_true, Bool.and_eq_false_iff, Bool.true_eq_false, Bool.false_eq_true, Bool.not_true, Bool.not_false, eq_self, D.len_l, wr64, not_true_eq_false, not_false_eq_true]); exact srcN_to h5 (by omega) (by omega)) ?_
            rintro _ ρ2 ⟨g6, t6, rfl, p6, q6, h6⟩ eρ
            refine ⟨rfl, ?_⟩
            simp only [List.cons_append, List.nil_append] at eρ
            subst eρ
            refine To.loopK (fun m o => ∃ k : Int, o = [.i k] ∧ 0 ≤ k ∧ k + m = 2) (fun o => ∃ rest, o = .i 1 :: rest ∧ rest.length = 27) 2 (by omega) ?_ ?_ ?_
            · exact ⟨0, by simp only [X.den, X.dens, X.denss, D.int_i, D.boo_b, D.str_s, D.rows_l, List.getD_cons_zero, List.getD_cons_succ, List.cons_append, List.nil_append, List.append_nil, List.length_cons, List.length_nil], by omega, by omega⟩
            · rintro m o ρ2 ⟨u, rfl, u0, u1⟩ eρ
              simp only [List.cons_append, List.nil_append] at eρ
              subst eρ
              refine To.ite (fun c => ?_) (fun c => ?_) <;> simp only [X.den, X.dens, X.denss, D.int_i, D.boo_b, D.str_s, D.rows_l, List.getD_cons_zero, List.getD_cons_succ, List.cons_append, List.nil_append, List.append_nil, List.length_cons, List.length_nil, decide_eq_true_eq, decide_eq_false_iff_not, Bool.not_eq_true', Bool.not_eq_false', Bool.and_eq_true, Bool.and_eq_false_iff, Bool.true_eq_false, Bool.false_eq_true, Bool.not_true, Bool.not_false, eq_self] at c
              · refine To.joinK (fun o => ∃ d : Int, o = [.i d, .i d]) ?_ ?_
                · exact To.ite (fun c => To.ret ⟨rfl, de, rfl⟩) (fun c => To.ret ⟨rfl, g6, rfl⟩)
                rintro o ρ2 ⟨d, rfl⟩ eρ
                simp only [List.cons_append, List.nil_append] at eρ
                subst eρ
                refine To.viaK (by (try simp (disch := omega) only [X.den, X.dens, X.denss, D.int_i, D.boo_b, D.str_s, D.rows_l, List.getD_cons_zero, List.getD_cons_succ, List.cons_append, List.nil_append, List.append_nil, List.length_cons, List.length_nil, decide_eq_true_eq, decide_eq_false_iff_not, Bool.not_eq_true', Bool.not_eq_false', Bool.and_eq_true, Bool.and_eq_false_iff, Bool.true_eq_false, Bool.false_eq_true, Bool.not_true, Bool.not_false, eq_self, D.len_l, wr64, not_true_eq_false, not_false_eq_true]); exact prun_full hu) ?_
                rintro _ ρ2 rfl eρ
                refine ⟨rfl, ?_⟩
                simp only [List.cons_append, List.nil_append] at eρ
                subst eρ
                refine To.viaK (by (try simp (disch := omega) only [X.den, X.dens, X.denss, D.int_i, D.boo_b, D.str_s, D.rows_l, List.getD_cons_zero, List.getD_cons_succ, List.cons_append, List.nil_append, List.append_nil, List.length_cons, List.length_nil, decide_eq_true_eq, decide_eq_false_iff_not, Bool.not_eq_true', Bool.not_eq_false', Bool.and_eq_true, Bool.and_eq_false_iff, Bool.true_eq_false, Bool.false_eq_true, Bool.not_true, Bool.not_false, eq_self, D.len_l, wr64, not_true_eq_false, not_false_eq_true]); exact rrun_full hu) ?_
                rintro _ ρ2 rfl eρ
                refine ⟨rfl, ?_⟩
                simp only [List.cons_append, List.nil_append] at eρ
                subst eρ
                have hlen := stOut_len (d := d) hu
                generalize stOut d us = ro at hlen ⊢
                refine To.joinK (fun o => o = [.b false]) ?_ ?_
                · refine To.yes (by simp only [X.den, X.dens, X.denss, D.int_i, D.boo_b, D.str_s, D.rows_l, List.getD_cons_zero, List.getD_cons_succ, List.cons_append, List.nil_append, List.append_nil, List.length_cons, List.length_nil]; simp) ?_
                  refine To.viaK (by (try simp (disch := omega) only [X.den, X.dens, X.denss, D.int_i, D.boo_b, D.str_s, D.rows_l, List.getD_cons_zero, List.getD_cons_succ, List.cons_append, List.nil_append, List.append_nil, List.length_cons, List.length_nil, decide_eq_true_eq, decide_eq_false_iff_not, Bool.not_eq_true', Bool.not_eq_false', Bool.and_eq_true, Bool.and_eq_false_iff, Bool.true_eq_false, Bool.false_eq_true, Bool.not_true, Bool.not_false, eq_self, D.len_l, wr64, not_true_eq_false, not_false_eq_true]); exact ints_same hlen) ?_
                  rintro _ ρ2 rfl eρ
                  refine ⟨rfl, ?_⟩
                  simp only [List.cons_append, List.nil_append] at eρ
                  subst eρ
                  exact To.ret ⟨rfl, by simp only [X.den, X.dens, X.denss, D.int_i, D.boo_b, D.str_s, D.rows_l, List.getD_cons_zero, List.getD_cons_succ, List.cons_append, List.nil_append, List.append_nil, List.length_cons, List.length_nil]; rfl⟩
                rintro o ρ2 rfl eρ
                simp only [List.cons_append, List.nil_append] at eρ
                subst eρ
                refine To.no rfl (To.ret (.inl ⟨rfl, m - 1, by omega, u + 1, by simp only [X.den, X.dens, X.denss, D.int_i, D.boo_b, D.str_s, D.rows_l, List.getD_cons_zero, List.getD_cons_succ, List.cons_append, List.nil_append, List.append_nil, List.length_cons, List.length_nil], by omega, by omega⟩))
              · exact To.ret (.inr ⟨rfl, _, rfl, rfl⟩)
            · rintro o ρ2 ⟨rest, rfl, hr⟩ eρ
              simp only [List.cons_append, List.nil_append] at eρ
              subst eρ
              refine ⟨by simp [hr], ?_⟩
              refine To.no rfl (To.ret (.inl ⟨rfl, m - 1, by omega, t6, i + 1, by simp only [X.den, X.dens, X.denss, D.int_i, D.boo_b, D.str_s, D.rows_l, List.getD_cons_zero, List.getD_cons_succ, List.cons_append, List.nil_append, List.append_nil, List.length_cons, List.length_nil], h6, by omega, by omega⟩))
          · exact To.ret (.inr ⟨rfl, t5, by simp only [X.den, X.dens, X.denss, D.int_i, D.boo_b, D.str_s, D.rows_l, List.getD_cons_zero, List.getD_cons_succ, List.cons_append, List.nil_append, List.append_nil, List.length_cons, List.length_nil], h5⟩)
        rintro o ρ2 ⟨t5, rfl, h5⟩ eρ
        simp only [List.cons_append, List.nil_append] at eρ
        subst eρ
        refine ⟨rfl, To.no rfl ?_⟩
        refine To.viaK (by (try simp (disch := omega) only [X.den, X.dens, X.denss, D.int_i, D.boo_b, D.str_s, D.rows_l, List.getD_cons_zero, List.getD_cons_succ, List.cons_append, List.nil_append, List.append_nil, List.length_cons, List.length_nil, decide_eq_true_eq, decide_eq_false_iff_not, Bool.not_eq_true', Bool.not_eq_false', Bool.and_eq_true, Bool.and_eq_false_iff, Bool.true_eq_false, Bool.false_eq_true, Bool.not_true, Bool.not_false, eq_self, D.len_l, wr64, not_true_eq_false, not_false_eq_true]); exact sEst_to h5) ?_
        rintro _ ρ2 ⟨f1, f2, f3, f4, f5, t6, rfl, h6⟩ eρ
        refine ⟨rfl, ?_⟩
        simp only [List.cons_append, List.nil_append] at eρ
        subst eρ
        refine To.loopK (fun m o => ∃ t i : Int, o = [.l rs, .i t, .i i] ∧ SrcOk rs t ∧ 0 ≤ i ∧ i + m = 2) (fun o => ∃ z1 z2 z3 z4 z5 z6 z7, o = [.i 1, z1, z2, z3, z4, z5, z6, z7]) 2 (by omega) ?_ ?_ ?_
        · exact ⟨t6, 0, by simp only [X.den, X.dens, X.denss, D.int_i, D.boo_b, D.str_s, D.rows_l, List.getD_cons_zero, List.getD_cons_succ, List.cons_append, List.nil_append, List.append_nil, List.length_cons, List.length_nil], h6, by omega, by omega⟩
        · rintro m o ρ2 ⟨t7, i, rfl, h7, i0, i1⟩ eρ
          simp only [List.cons_append, List.nil_append] at eρ
          subst eρ
          refine To.ite (fun c => ?_) (fun c => ?_) <;> simp only [X.den, X.dens, X.denss, D.int_i, D.boo_b, D.str_s, D.rows_l, List.getD_cons_zero, List.getD_cons_succ, List.cons_append, List.nil_append, List.append_nil, List.length_cons, List.length_nil, decide_eq_true_eq, decide_eq_false_iff_not, Bool.not_eq_true', Bool.not_eq_false', Bool.and_eq_true, Bool.and_eq_false_iff, Bool.true_eq_false, Bool.false_eq_true, Bool.not_true, Bool.not_false, eq_self] at c
          · refine To.joinK (fun o => ∃ a b c d e, o = [a, b, c, d, e, a, b, c, d, e]) ?_ ?_
            · exact To.ite (fun c => To.ret ⟨rfl, _, _, _, _, _, rfl⟩) (fun c => To.ret ⟨rfl, _, _, _, _, _, rfl⟩)
            rintro o ρ2 ⟨a1, a2, a3, a4, a5, rfl⟩ eρ
            simp only [List.cons_append, List.nil_append] at eρ
            subst eρ
            refine To.viaK (by (try simp (disch := omega) only [X.den, X.dens, X.denss, D.int_i, D.boo_b, D.str_s, D.rows_l, List.getD_cons_zero, List.getD_cons_succ, List.cons_append, List.nil_append, List.append_nil, List.length_cons, List.length_nil, decide_eq_true_eq, decide_eq_false_iff_not, Bool.not_eq_true', Bool.not_eq_false', Bool.and_eq_true, Bool.and_eq_false_iff, Bool.true_eq_false, Bool.false_eq_true, Bool.not_true, Bool.not_false, eq_self, D.len_l, wr64, not_true_eq_false, not_false_eq_true]); exact srcN_to h7 (by omega) (by omega)) ?_
            rintro _ ρ2 ⟨g8, t8, rfl, p8, q8, h8⟩ eρ
            refine ⟨rfl, ?_⟩
            simp only [List.cons_append, List.nil_append] at eρ
            subst eρ
            refine To.loopK (fun m o => ∃ k : Int, o = [.i k] ∧ 0 ≤ k ∧ k + m = 2) (fun o => ∃ rest, o = .i 1 :: rest ∧ rest.length = 9) 2 (by omega) ?_ ?_ ?_
            · exact ⟨0, by simp only [X.den, X.dens, X.denss, D.int_i, D.boo_b, D.str_s, D.rows_l, List.getD_cons_zero, List.getD_cons_succ, List.cons_append, List.nil_append, List.append_nil, List.length_cons, List.length_nil], by omega, by omega⟩
            · rintro m o ρ2 ⟨u, rfl, u0, u1⟩ eρ
              simp only [List.cons_append, List.nil_append] at eρ
              subst eρ
              refine To.ite (fun c => ?_) (fun c => ?_) <;> simp only [X.den, X.dens, X.denss, D.int_i, D.boo_b, D.str_s, D.rows_l, List.getD_cons_zero, List.getD_cons_succ, List.cons_append, List.nil_append, List.append_nil, List.length_cons, List.length_nil, decide_eq_true_eq, decide_eq_false_iff_not, Bool.not_eq_true', Bool.not_eq_false', Bool.and_eq_true, Bool.and_eq_false_iff, Bool.true_eq_false, Bool.false_eq_true, Bool.not_true, Bool.not_false, eq_self] at c
              · refine To.joinK (fun o => ∃ q, o = [q, q]) ?_ ?_
                · exact To.ite (fun c => To.ret ⟨rfl, _, rfl⟩) (fun c => To.ret ⟨rfl, _, rfl⟩)
                rintro o ρ2 ⟨q, rfl⟩ eρ
                simp only [List.cons_append, List.nil_append] at eρ
                subst eρ
                refine To.callX rfl (fun ρ2 eρ => ⟨rfl, ?_⟩)
                simp only [X.den, X.dens, X.denss, D.int_i, D.boo_b, D.str_s, D.rows_l, List.getD_cons_zero, List.getD_cons_succ, List.cons_append, List.nil_append, List.append_nil, List.length_cons, List.length_nil, ia] at eρ
                subst eρ
                refine To.callX rfl (fun ρ2 eρ => ⟨rfl, ?_⟩)
                simp only [X.den, X.dens, X.denss, D.int_i, D.boo_b, D.str_s, D.rows_l, List.getD_cons_zero, List.getD_cons_succ, List.cons_append, List.nil_append, List.append_nil, List.length_cons, List.length_nil, ia] at eρ
                subst eρ
                refine To.yes (by simp only [X.den, X.dens, X.denss, D.int_i, D.boo_b, D.str_s, D.rows_l, List.getD_cons_zero, List.getD_cons_succ, List.cons_append, List.nil_append, List.append_nil, List.length_cons, List.length_nil]; simp) (To.ret (.inl ⟨rfl, m - 1, by omega, u + 1, by simp only [X.den, X.dens, X.denss, D.int_i, D.boo_b, D.str_s, D.rows_l, List.getD_cons_zero, List.getD_cons_succ, List.cons_append, List.nil_append, List.append_nil, List.length_cons, List.length_nil], by omega, by omega⟩))
              · exact To.ret (.inr ⟨rfl, _, rfl, rfl⟩)
            · rintro o ρ2 ⟨rest, rfl, hr⟩ eρ
              simp only [List.cons_append, List.nil_append] at eρ
              subst eρ
              refine ⟨by simp [hr], ?_⟩
              refine To.no rfl (To.ret (.inl ⟨rfl, m - 1, by omega, t8, i + 1, by simp only [X.den, X.dens, X.denss, D.int_i, D.boo_b, D.str_s, D.rows_l, List.getD_cons_zero, List.getD_cons_succ, List.cons_append, List.nil_append, List.append_nil, List.length_cons, List.length_nil], h8, by omega, by omega⟩))
          · exact To.ret (.inr ⟨rfl, _, _, _, _, _, _, _, rfl⟩)
        rintro o ρ2 ⟨z1, z2, z3, z4, z5, z6, z7, rfl⟩ eρ
        simp only [List.cons_append, List.nil_append] at eρ
        subst eρ
        refine ⟨rfl, To.no rfl ?_⟩
        refine To.callK (l := [.b true]) hs rfl _ (by simp only [List.cons_append, List.nil_append]; first | done | rfl) ?_
        exact To.ret (by simp only [X.den, X.dens, X.denss, D.int_i, D.boo_b, D.str_s, D.rows_l, List.getD_cons_zero, List.getD_cons_succ, List.cons_append, List.nil_append, List.append_nil, List.length_cons, List.length_nil])
      · cases h
    · cases h
theorem rows_nums : ∀ {l : List (List D)}, (∀ row ∈ l, WfR [.int .i64] row) → ∃ zs, l = nums zs
  | [], _ => ⟨[], rfl⟩
  | r :: l, h => by
    obtain ⟨zs, rfl⟩ := rows_nums (l := l) fun row hr => h row (List.mem_cons_of_mem _ hr)
    have hr := h r (List.mem_cons_self ..)
    simp only [WfR, WfC] at hr
    obtain ⟨d, ds', rfl, ⟨z, rfl, _⟩, rfl⟩ := hr
    exact ⟨z :: zs, rfl⟩
def StatusExact_ps : List PK := sExact_K.ps
theorem StatusExact_all : Fx.LawOk Try.prog 5 StatusExact_ps :=
  law_all se_ok rfl (by kernel_rfl) fun ds hw => by
    have hw' : WfR [.sl [.int .i64], .int .i64, .int .i64, .int .i64, .int .i64, .int .i64, .sl [.int .i64], .int .i64, .int .i64, .int .i64, .int .i64, .int .i64, .bool, .bool] ds := hw
    rw [WfR] at hw'
    obtain ⟨d0, ds0, rfl, c0, hw'⟩ := hw'
    obtain ⟨d1, ds1, rfl, c1, hw'⟩ := hw'
    obtain ⟨d2, ds2, rfl, c2, hw'⟩ := hw'
    obtain ⟨d3, ds3, rfl, c3, hw'⟩ := hw'
    obtain ⟨d4, ds4, rfl, c4, hw'⟩ := hw'
    obtain ⟨d5, ds5, rfl, c5, hw'⟩ := hw'
    obtain ⟨d6, ds6, rfl, c6, hw'⟩ := hw'
    obtain ⟨d7, ds7, rfl, c7, hw'⟩ := hw'
    obtain ⟨d8, ds8, rfl, c8, hw'⟩ := hw'
    obtain ⟨d9, ds9, rfl, c9, hw'⟩ := hw'
    obtain ⟨d10, ds10, rfl, c10, hw'⟩ := hw'
    obtain ⟨d11, ds11, rfl, c11, hw'⟩ := hw'
    obtain ⟨d12, ds12, rfl, c12, hw'⟩ := hw'
    obtain ⟨d13, ds13, rfl, c13, hw'⟩ := hw'
    obtain rfl : ds13 = [] := by simpa only [WfR] using hw'
    simp only [WfC] at c0 c1 c2 c3 c4 c5 c6
    obtain ⟨rows, rfl, _, _⟩ := c0
    obtain ⟨z1, rfl, _⟩ := c1
    obtain ⟨z2, rfl, _⟩ := c2
    obtain ⟨z3, rfl, _⟩ := c3
    obtain ⟨z4, rfl, _⟩ := c4
    obtain ⟨z5, rfl, _⟩ := c5
    obtain ⟨raw, rfl, _, w6⟩ := c6
    exact if_pos (rows_nums w6)
end Go.Proofs.Ytdkamfkpmplaoaa
