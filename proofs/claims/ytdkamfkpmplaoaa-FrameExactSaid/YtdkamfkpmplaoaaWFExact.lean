/- FrameExact: all functions for any points, vectors and angles: the program's give what the reference's give. -/
import Derived.Test.YtdkamfkpmplaoaaFrmS
import Derived.Test.YtdkamfkpmplaoaaFrm
import Derived.Test.YtdkamfkpmplaoaaWAExact
set_option linter.unusedVariables false
set_option linter.unusedSimpArgs false
set_option maxRecDepth 100000
namespace Go.Proofs.Ytdkamfkpmplaoaa
open Go.RowKit Fx
theorem sane03_ok : ConOk Try.prog sane03_K saneR := con_tot follows (M := noM) no_cons sane03_t rfl 0 fun ds outs hl h => by
  match ds, hl with
  | [], _ =>
    have h : some [D.b true] = some outs := h
    injection h with h
    subst h
    unfold sane03_T
    exact To.ret (by simp only [X.den, X.dens, X.denss, D.int_i, D.boo_b, D.str_s, D.rows_l, List.getD_cons_zero, List.getD_cons_succ, List.cons_append, List.nil_append, List.append_nil, List.length_cons, List.length_nil])
theorem srcPt_ok : ConOk Try.prog srcPt_K (srcPt_T.run srcM 0) := con_run follows (one_con (srcN_ok.to _) no_cons) srcPt_t rfl 0
theorem srcPt_to {rows : List (List D)} {at_ : Int} (h : SrcOk rows at_) : ∃ l, srcPt_T.run srcM 0 [.l rows, .i at_] = some l ∧ ∃ d e at', l = [d, e, .l rows, .i at'] ∧ SrcOk rows at' := by
  refine run_to ?_
  unfold srcPt_T
  refine To.viaK (by (try simp (disch := omega) only [X.den, X.dens, X.denss, D.int_i, D.boo_b, D.str_s, D.rows_l, List.getD_cons_zero, List.getD_cons_succ, List.cons_append, List.nil_append, List.append_nil, List.length_cons, List.length_nil, decide_eq_true_eq, decide_eq_false_iff_not, Bool.not_eq_true', Bool.not_eq_false', Bool.and_eq_true, Bool.and_eq_false_iff, Bool.true_eq_false, Bool.false_eq_true, Bool.not_true, Bool.not_false, eq_self, D.len_l, wr64, not_true_eq_false, not_false_eq_true]); exact srcN_to h (by omega) (by omega)) ?_
  rintro _ ρ2 ⟨r, t0, rfl, a0, b0, h0⟩ eρ
  refine ⟨rfl, ?_⟩
  simp only [List.cons_append, List.nil_append] at eρ
  subst eρ
  refine To.need (by simp only [X.den, X.dens, X.denss, D.int_i, D.boo_b, D.str_s, D.rows_l, List.getD_cons_zero, List.getD_cons_succ, List.cons_append, List.nil_append, List.append_nil, List.length_cons, List.length_nil, decide_eq_true_eq, decide_eq_false_iff_not, Bool.not_eq_true', Bool.not_eq_false', Bool.and_eq_true, Bool.and_eq_false_iff, Bool.true_eq_false, Bool.false_eq_true, Bool.not_true, Bool.not_false, eq_self]; omega) ?_
  obtain ⟨m, em, m1, m2⟩ := four (p := fun r => ∃ m : Int, ((D.l [[.i 10], [.i 100], [.i 1000], [.i 100000000]]).cell r 0).int = m ∧ 10 ≤ m ∧ m ≤ 100000000) a0 b0 ⟨10, rfl, by decide⟩ ⟨100, rfl, by decide⟩ ⟨1000, rfl, by decide⟩ ⟨100000000, rfl, by decide⟩
  refine To.viaK (by (try simp (disch := omega) only [X.den, X.dens, X.denss, D.int_i, D.boo_b, D.str_s, D.rows_l, List.getD_cons_zero, List.getD_cons_succ, List.cons_append, List.nil_append, List.append_nil, List.length_cons, List.length_nil, decide_eq_true_eq, decide_eq_false_iff_not, Bool.not_eq_true', Bool.not_eq_false', Bool.and_eq_true, Bool.and_eq_false_iff, Bool.true_eq_false, Bool.false_eq_true, Bool.not_true, Bool.not_false, eq_self, D.len_l, wr64, not_true_eq_false, not_false_eq_true, em]); exact srcN_to h0 (by omega) (by omega)) ?_
  rintro _ ρ2 ⟨r1, t1, rfl, a1, b1, h1⟩ eρ
  refine ⟨rfl, ?_⟩
  simp only [List.cons_append, List.nil_append] at eρ
  subst eρ
  refine To.viaK (by (try simp (disch := omega) only [X.den, X.dens, X.denss, D.int_i, D.boo_b, D.str_s, D.rows_l, List.getD_cons_zero, List.getD_cons_succ, List.cons_append, List.nil_append, List.append_nil, List.length_cons, List.length_nil, decide_eq_true_eq, decide_eq_false_iff_not, Bool.not_eq_true', Bool.not_eq_false', Bool.and_eq_true, Bool.and_eq_false_iff, Bool.true_eq_false, Bool.false_eq_true, Bool.not_true, Bool.not_false, eq_self, D.len_l, wr64, not_true_eq_false, not_false_eq_true, em]); exact srcN_to h1 (by omega) (by omega)) ?_
  rintro _ ρ2 ⟨r2, t2, rfl, a2, b2, h2⟩ eρ
  refine ⟨rfl, ?_⟩
  simp only [List.cons_append, List.nil_append] at eρ
  subst eρ
  refine To.ret ?_
  simp only [X.den, X.dens, X.denss, D.int_i, D.boo_b, D.str_s, D.rows_l, List.getD_cons_zero, List.getD_cons_succ, List.cons_append, List.nil_append, List.append_nil, List.length_cons, List.length_nil]
  exact ⟨_, _, _, rfl, h2⟩
theorem add_ex (a b c d : Int) : ∃ u v w, addL a b c d = [.i u, .i v, .i w] := by
  unfold addL
  split <;> exact ⟨_, _, _, rfl⟩
theorem sub_ex (a b c d : Int) : ∃ u v w, subL a b c d = [.i u, .i v, .i w] := by
  unfold subL
  split <;> exact ⟨_, _, _, rfl⟩
theorem box_ex (a b c d : Int) : ∃ u v, boxL a b c d = [.i u, .i v] := by
  unfold boxL
  split <;> exact ⟨_, _, rfl⟩
theorem dst_ex (a b c d : Int) : ∃ u v, dstL a b c d = [.i u, .i v] := by
  unfold dstL
  split <;> exact ⟨_, _, rfl⟩
theorem bdy_ex (x y a : Int) : ∃ u v w, bdyL x y a = [.i u, .i v, .i w] := trn_ex x y (0 - nm a)
noncomputable def feM : Models := Models.on srcN_K.f (srcN_T.run noM 0) (Models.on srcPt_K.f (srcPt_T.run srcM 0) (Models.on srcOdd_K.f (srcOdd_T.run srcM 0) (Models.on pfValid_K.f (B2 vldB) (Models.on rfValid_K.f (B2 vldB) (Models.on pfAdd_K.f (FL4 addL) (Models.on rfAdd_K.f (FL4 addL) (Models.on pfSub_K.f (FL4 subL) (Models.on rfSub_K.f (FL4 subL) (Models.on pfBox_K.f (FL4 boxL) (Models.on rfBox_K.f (FL4 boxL) (Models.on pfDist_K.f (FL4 dstL) (Models.on rfDist_K.f (FL4 dstL) (Models.on pfTurn_K.f (FL3 trnL) (Models.on rfTurn_K.f (FL3 trnL) (Models.on pfEarth_K.f (FL3 trnL) (Models.on rfEarth_K.f (FL3 trnL) (Models.on pfBody_K.f (FL3 bdyL) (Models.on rfBody_K.f (FL3 bdyL) (Models.on sane03_K.f saneR noM)))))))))))))))))))
def feR : List D → Option (List D) := fun ds => match ds with
  | [.l rows, x1, x2, x3, x4, x, y, a] => some [.b true]
  | _ => none
set_option maxHeartbeats 4000000 in
theorem fe_ok : ConOk Try.prog fExact_K feR :=
  con_of follows (M := feM) (one_con (srcN_ok.to _) (one_con (srcPt_ok.to _) (one_con (srcOdd_ok.to _) (one_con (pfValid_ok.to _) (one_con (rfValid_ok.to _) (one_con (pfAdd_ok.to _) (one_con (rfAdd_ok.to _) (one_con (pfSub_ok.to _) (one_con (rfSub_ok.to _) (one_con (pfBox_ok.to _) (one_con (rfBox_ok.to _) (one_con (pfDist_ok.to _) (one_con (rfDist_ok.to _) (one_con (pfTurn_ok.to _) (one_con (rfTurn_ok.to _) (one_con (pfEarth_ok.to _) (one_con (rfEarth_ok.to _) (one_con (pfBody_ok.to _) (one_con (rfBody_ok.to _) (one_con (sane03_ok.to _) no_cons)))))))))))))))))))) fExact_t fun ds outs hl h => by
    unfold feR at h
    split at h
    · rename_i rows x1 x2 x3 x4 x y a
      injection h with h
      subst h
      have hs : saneR [] = some [D.b true] := if_pos rfl
      refine ⟨fun i l h k => by simp [fExact_K] at k, 10, ?_⟩
      unfold fExact_T
      refine To.need (by simp only [X.den, X.dens, X.denss, D.int_i, D.boo_b, D.str_s, D.rows_l, List.getD_cons_zero, List.getD_cons_succ, List.cons_append, List.nil_append, List.append_nil, List.length_cons, List.length_nil, decide_eq_true_eq, decide_eq_false_iff_not, Bool.not_eq_true', Bool.not_eq_false', Bool.and_eq_true, Bool.and_eq_false_iff, Bool.true_eq_false, Bool.false_eq_true, Bool.not_true, Bool.not_false, eq_self, D.len_l]; omega) ?_
      refine To.viaK (by (try simp (disch := omega) only [X.den, X.dens, X.denss, D.int_i, D.boo_b, D.str_s, D.rows_l, List.getD_cons_zero, List.getD_cons_succ, List.cons_append, List.nil_append, List.append_nil, List.length_cons, List.length_nil, decide_eq_true_eq, decide_eq_false_iff_not, Bool.not_eq_true', Bool.not_eq_false', Bool.and_eq_true, Bool.and_eq_false_iff, Bool.true_eq_false, Bool.false_eq_true, Bool.not_true, Bool.not_false, eq_self, D.len_l, wr64, not_true_eq_false, not_false_eq_true]); exact srcPt_to src_take02) ?_
      rintro _ ρ2 ⟨e1, e2, t1, rfl, h1⟩ eρ
      refine ⟨rfl, ?_⟩
      simp only [List.cons_append, List.nil_append] at eρ
      subst eρ
      generalize (List.take _ _ : List (List D)) = rs at h1 ⊢
      refine To.viaK (by (try simp (disch := omega) only [X.den, X.dens, X.denss, D.int_i, D.boo_b, D.str_s, D.rows_l, List.getD_cons_zero, List.getD_cons_succ, List.cons_append, List.nil_append, List.append_nil, List.length_cons, List.length_nil, decide_eq_true_eq, decide_eq_false_iff_not, Bool.not_eq_true', Bool.not_eq_false', Bool.and_eq_true, Bool.and_eq_false_iff, Bool.true_eq_false, Bool.false_eq_true, Bool.not_true, Bool.not_false, eq_self, D.len_l, wr64, not_true_eq_false, not_false_eq_true]); exact srcOdd_to h1) ?_
      rintro _ ρ2 ⟨o1, t2, rfl, h2⟩ eρ
      refine ⟨rfl, ?_⟩
      simp only [List.cons_append, List.nil_append] at eρ
      subst eρ
      refine To.loopK (fun m l => ∃ t i : Int, l = [.l rs, .i t, .i i] ∧ SrcOk rs t ∧ 0 ≤ i ∧ i + m = 4) (fun l => ∃ z1 z2 z3 z4, l = [.i 1, z1, z2, z3, z4]) 4 (by omega) ?_ ?_ ?_
      · exact ⟨t2, 0, by simp only [X.den, X.dens, X.denss, D.int_i, D.boo_b, D.str_s, D.rows_l, List.getD_cons_zero, List.getD_cons_succ, List.cons_append, List.nil_append, List.append_nil, List.length_cons, List.length_nil], h2, by omega, by omega⟩
      · rintro m l ρ2 ⟨t3, i, rfl, h3, i0, i1⟩ eρ
        simp only [List.cons_append, List.nil_append] at eρ
        subst eρ
        refine To.ite (fun c => ?_) (fun c => ?_) <;> simp only [X.den, X.dens, X.denss, D.int_i, D.boo_b, D.str_s, D.rows_l, List.getD_cons_zero, List.getD_cons_succ, List.cons_append, List.nil_append, List.append_nil, List.length_cons, List.length_nil, decide_eq_true_eq, decide_eq_false_iff_not, Bool.not_eq_true', Bool.not_eq_false', Bool.and_eq_true, Bool.and_eq_false_iff, Bool.true_eq_false, Bool.false_eq_true, Bool.not_true, Bool.not_false, eq_self] at c
        · refine To.joinK (fun l => ∃ t rest, l = .i 0 :: .l rs :: .i t :: rest ∧ SrcOk rs t) ?_ ?_
          · refine To.callX rfl (fun ρ2 eρ => ⟨rfl, ?_⟩)
            simp only [X.den, X.dens, X.denss, D.int_i, D.boo_b, D.str_s, D.rows_l, List.getD_cons_zero, List.getD_cons_succ, List.cons_append, List.nil_append, List.append_nil, List.length_cons, List.length_nil, ia] at eρ
            subst eρ
            refine To.callX rfl (fun ρ2 eρ => ⟨rfl, ?_⟩)
            simp only [X.den, X.dens, X.denss, D.int_i, D.boo_b, D.str_s, D.rows_l, List.getD_cons_zero, List.getD_cons_succ, List.cons_append, List.nil_append, List.append_nil, List.length_cons, List.length_nil, ia] at eρ
            subst eρ
            refine To.yes (by simp only [X.den, X.dens, X.denss, D.int_i, D.boo_b, D.str_s, D.rows_l, List.getD_cons_zero, List.getD_cons_succ, List.cons_append, List.nil_append, List.append_nil, List.length_cons, List.length_nil]; simp) ?_
            refine To.loopK (fun m l => ∃ j : Int, l = [.i j] ∧ 0 ≤ j ∧ j + m = 4) (fun l => ∃ r1 r2 r3 r4 r5 r6 r7 r8 r9 r10 r11 r12 r13 r14 r15 r16 r17 r18 r19 r20 r21 r22 r23 r24 r25 r26 r27 r28 r29 r30 r31 r32 r33 r34 r35 r36 r37 r38 r39 r40 r41 r42 r43 r44 r45 r46 r47 r48 r49 r50 r51 r52 r53 r54 r55 r56 r57 r58 r59 r60 r61 r62 r63 r64 r65 r66 r67 r68 r69 r70 r71 r72 r73, l = [.i 1, r1, r2, r3, r4, r5, r6, r7, r8, r9, r10, r11, r12, r13, r14, r15, r16, r17, r18, r19, r20, r21, r22, r23, r24, r25, r26, r27, r28, r29, r30, r31, r32, r33, r34, r35, r36, r37, r38, r39, r40, r41, r42, r43, r44, r45, r46, r47, r48, r49, r50, r51, r52, r53, r54, r55, r56, r57, r58, r59, r60, r61, r62, r63, r64, r65, r66, r67, r68, r69, r70, r71, r72, r73]) 4 (by omega) ?_ ?_ ?_
            · exact ⟨0, by simp only [X.den, X.dens, X.denss, D.int_i, D.boo_b, D.str_s, D.rows_l, List.getD_cons_zero, List.getD_cons_succ, List.cons_append, List.nil_append, List.append_nil, List.length_cons, List.length_nil], by omega, by omega⟩
            · rintro m l ρ2 ⟨j, rfl, j0, j1⟩ eρ
              simp only [List.cons_append, List.nil_append] at eρ
              subst eρ
              refine To.ite (fun c => ?_) (fun c => ?_) <;> simp only [X.den, X.dens, X.denss, D.int_i, D.boo_b, D.str_s, D.rows_l, List.getD_cons_zero, List.getD_cons_succ, List.cons_append, List.nil_append, List.append_nil, List.length_cons, List.length_nil, decide_eq_true_eq, decide_eq_false_iff_not, Bool.not_eq_true', Bool.not_eq_false', Bool.and_eq_true, Bool.and_eq_false_iff, Bool.true_eq_false, Bool.false_eq_true, Bool.not_true, Bool.not_false, eq_self] at c
              · refine To.joinK (fun l => ∃ rest, l = .i 1 :: rest) ?_ ?_
                · obtain ⟨a1, a2, a3, ha⟩ := add_ex ((D.l [[x1, x2], [x3, x4], [e1, e2], [o1, .i 0]]).cell i 0).int ((D.l [[x1, x2], [x3, x4], [e1, e2], [o1, .i 0]]).cell i 1).int ((D.l [[x1, x2], [x3, x4], [e1, e2], [o1, .i 0]]).cell j 0).int ((D.l [[x1, x2], [x3, x4], [e1, e2], [o1, .i 0]]).cell j 1).int
                  refine To.callK (l := [.i a1, .i a2, .i a3]) (congrArg some ha) rfl _ (by simp only [List.cons_append, List.nil_append]; first | done | rfl) ?_
                  refine To.callK (l := [.i a1, .i a2, .i a3]) (congrArg some ha) rfl _ (by simp only [List.cons_append, List.nil_append]; first | done | rfl) ?_
                  obtain ⟨s1, s2, s3, hsb⟩ := sub_ex ((D.l [[x1, x2], [x3, x4], [e1, e2], [o1, .i 0]]).cell i 0).int ((D.l [[x1, x2], [x3, x4], [e1, e2], [o1, .i 0]]).cell i 1).int ((D.l [[x1, x2], [x3, x4], [e1, e2], [o1, .i 0]]).cell j 0).int ((D.l [[x1, x2], [x3, x4], [e1, e2], [o1, .i 0]]).cell j 1).int
                  refine To.callK (l := [.i s1, .i s2, .i s3]) (congrArg some hsb) rfl _ (by simp only [List.cons_append, List.nil_append]; first | done | rfl) ?_
                  refine To.callK (l := [.i s1, .i s2, .i s3]) (congrArg some hsb) rfl _ (by simp only [List.cons_append, List.nil_append]; first | done | rfl) ?_
                  refine To.joinK (fun l => ∃ z1 z2 z3 z4, l = [z1, z2, z3, z4, .b false]) ?_ ?_
                  · (repeat' (first
                        
                        | (refine To.subK (fun K hK => ?_))
                        | (refine To.need (by simp (disch := omega) only [X.den, X.dens, X.denss, D.int_i, D.boo_b, D.str_s, D.rows_l, List.getD_cons_zero, List.getD_cons_succ, List.cons_append, List.nil_append, List.append_nil, List.length_cons, List.length_nil, decide_eq_true_eq, decide_eq_false_iff_not, Bool.not_eq_true', Bool.not_eq_false', Bool.and_eq_true, Bool.and_eq_false_iff, Bool.true_eq_false, Bool.false_eq_true, Bool.not_true, Bool.not_false, eq_self, D.len_l, wr64, not_true_eq_false, not_false_eq_true, decide_true, Bool.not_true, and_self, Bool.and_self] <;> omega) ?_)
                        | (refine To.ite (fun c => ?_) (fun c => ?_) <;> ((try simp (disch := omega) only [X.den, X.dens, X.denss, D.int_i, D.boo_b, D.str_s, D.rows_l, List.getD_cons_zero, List.getD_cons_succ, List.cons_append, List.nil_append, List.append_nil, List.length_cons, List.length_nil, decide_eq_true_eq, decide_eq_false_iff_not, Bool.not_eq_true', Bool.not_eq_false', Bool.and_eq_true, Bool.and_eq_false_iff, Bool.true_eq_false, Bool.false_eq_true, Bool.not_true, Bool.not_false, eq_self, D.len_l, wr64, not_true_eq_false, not_false_eq_true, decide_true, Bool.not_true, and_self, Bool.and_self] at c) <;> (try (exfalso; omega))))
                        | (refine To.ret ⟨rfl, ?_⟩; (try simp (disch := omega) only [X.den, X.dens, X.denss, D.int_i, D.boo_b, D.str_s, D.rows_l, List.getD_cons_zero, List.getD_cons_succ, List.cons_append, List.nil_append, List.append_nil, List.length_cons, List.length_nil, decide_eq_true_eq, decide_eq_false_iff_not, Bool.not_eq_true', Bool.not_eq_false', Bool.and_eq_true, Bool.and_eq_false_iff, Bool.true_eq_false, Bool.false_eq_true, Bool.not_true, Bool.not_false, eq_self, D.len_l, wr64, not_true_eq_false, not_false_eq_true, decide_true, Bool.not_true, and_self, Bool.and_self]); refine hK _ _ (by simp only [List.cons_append, List.nil_append]; first | done | rfl) ?_; clear hK; clear K)))
                    all_goals (refine To.ret ⟨rfl, ?_⟩; simp only [X.den, X.dens, X.denss, D.int_i, D.boo_b, D.str_s, D.rows_l, List.getD_cons_zero, List.getD_cons_succ, List.cons_append, List.nil_append, List.append_nil, List.length_cons, List.length_nil, decide_true, Bool.not_true, Bool.and_self]; exact ⟨_, _, _, _, rfl⟩)
                  rintro l ρ2 ⟨z1, z2, z3, z4, rfl⟩ eρ
                  simp only [List.cons_append, List.nil_append] at eρ
                  subst eρ
                  refine To.no rfl ?_
                  obtain ⟨b1, b2, hb⟩ := box_ex ((D.l [[x1, x2], [x3, x4], [e1, e2], [o1, .i 0]]).cell i 0).int ((D.l [[x1, x2], [x3, x4], [e1, e2], [o1, .i 0]]).cell i 1).int ((D.l [[x1, x2], [x3, x4], [e1, e2], [o1, .i 0]]).cell j 0).int ((D.l [[x1, x2], [x3, x4], [e1, e2], [o1, .i 0]]).cell j 1).int
                  refine To.callK (l := [.i b1, .i b2]) (congrArg some hb) rfl _ (by simp only [List.cons_append, List.nil_append]; first | done | rfl) ?_
                  refine To.callK (l := [.i b1, .i b2]) (congrArg some hb) rfl _ (by simp only [List.cons_append, List.nil_append]; first | done | rfl) ?_
                  obtain ⟨d1, d2, hd⟩ := dst_ex ((D.l [[x1, x2], [x3, x4], [e1, e2], [o1, .i 0]]).cell i 0).int ((D.l [[x1, x2], [x3, x4], [e1, e2], [o1, .i 0]]).cell i 1).int ((D.l [[x1, x2], [x3, x4], [e1, e2], [o1, .i 0]]).cell j 0).int ((D.l [[x1, x2], [x3, x4], [e1, e2], [o1, .i 0]]).cell j 1).int
                  refine To.callK (l := [.i d1, .i d2]) (congrArg some hd) rfl _ (by simp only [List.cons_append, List.nil_append]; first | done | rfl) ?_
                  refine To.callK (l := [.i d1, .i d2]) (congrArg some hd) rfl _ (by simp only [List.cons_append, List.nil_append]; first | done | rfl) ?_
                  refine To.joinK (fun l => ∃ z1 z2 z3 z4, l = [z1, z2, z3, z4, .b false]) ?_ ?_
                  · (repeat' (first
                        
                        | (refine To.subK (fun K hK => ?_))
                        | (refine To.need (by simp (disch := omega) only [X.den, X.dens, X.denss, D.int_i, D.boo_b, D.str_s, D.rows_l, List.getD_cons_zero, List.getD_cons_succ, List.cons_append, List.nil_append, List.append_nil, List.length_cons, List.length_nil, decide_eq_true_eq, decide_eq_false_iff_not, Bool.not_eq_true', Bool.not_eq_false', Bool.and_eq_true, Bool.and_eq_false_iff, Bool.true_eq_false, Bool.false_eq_true, Bool.not_true, Bool.not_false, eq_self, D.len_l, wr64, not_true_eq_false, not_false_eq_true, decide_true, Bool.not_true, and_self, Bool.and_self] <;> omega) ?_)
                        | (refine To.ite (fun c => ?_) (fun c => ?_) <;> ((try simp (disch := omega) only [X.den, X.dens, X.denss, D.int_i, D.boo_b, D.str_s, D.rows_l, List.getD_cons_zero, List.getD_cons_succ, List.cons_append, List.nil_append, List.append_nil, List.length_cons, List.length_nil, decide_eq_true_eq, decide_eq_false_iff_not, Bool.not_eq_true', Bool.not_eq_false', Bool.and_eq_true, Bool.and_eq_false_iff, Bool.true_eq_false, Bool.false_eq_true, Bool.not_true, Bool.not_false, eq_self, D.len_l, wr64, not_true_eq_false, not_false_eq_true, decide_true, Bool.not_true, and_self, Bool.and_self] at c) <;> (try (exfalso; omega))))
                        | (refine To.ret ⟨rfl, ?_⟩; (try simp (disch := omega) only [X.den, X.dens, X.denss, D.int_i, D.boo_b, D.str_s, D.rows_l, List.getD_cons_zero, List.getD_cons_succ, List.cons_append, List.nil_append, List.append_nil, List.length_cons, List.length_nil, decide_eq_true_eq, decide_eq_false_iff_not, Bool.not_eq_true', Bool.not_eq_false', Bool.and_eq_true, Bool.and_eq_false_iff, Bool.true_eq_false, Bool.false_eq_true, Bool.not_true, Bool.not_false, eq_self, D.len_l, wr64, not_true_eq_false, not_false_eq_true, decide_true, Bool.not_true, and_self, Bool.and_self]); refine hK _ _ (by simp only [List.cons_append, List.nil_append]; first | done | rfl) ?_; clear hK; clear K)))
                    all_goals (refine To.ret ⟨rfl, ?_⟩; simp only [X.den, X.dens, X.denss, D.int_i, D.boo_b, D.str_s, D.rows_l, List.getD_cons_zero, List.getD_cons_succ, List.cons_append, List.nil_append, List.append_nil, List.length_cons, List.length_nil, decide_true, Bool.not_true, Bool.and_self]; exact ⟨_, _, _, _, rfl⟩)
                  rintro l ρ2 ⟨z1, z2, z3, z4, rfl⟩ eρ
                  simp only [List.cons_append, List.nil_append] at eρ
                  subst eρ
                  refine To.no rfl ?_
                  exact To.ret ⟨rfl, _, rfl⟩
                rintro l ρ2 ⟨rest, rfl⟩ eρ
                simp only [List.cons_append, List.nil_append] at eρ
                subst eρ
                refine To.no rfl (To.ret (.inl ⟨rfl, m - 1, by omega, j + 1, ?_, by omega, by omega⟩))
                simp only [X.den, X.dens, X.denss, D.int_i, D.boo_b, D.str_s, D.rows_l, List.getD_cons_zero, List.getD_cons_succ, List.cons_append, List.nil_append, List.append_nil, List.length_cons, List.length_nil]
              · exact To.ret (.inr ⟨rfl, _, _, _, _, _, _, _, _, _, _, _, _, _, _, _, _, _, _, _, _, _, _, _, _, _, _, _, _, _, _, _, _, _, _, _, _, _, _, _, _, _, _, _, _, _, _, _, _, _, _, _, _, _, _, _, _, _, _, _, _, _, _, _, _, _, _, _, _, _, _, _, _, _, rfl⟩)
            rintro l ρ2 ⟨r1, r2, r3, r4, r5, r6, r7, r8, r9, r10, r11, r12, r13, r14, r15, r16, r17, r18, r19, r20, r21, r22, r23, r24, r25, r26, r27, r28, r29, r30, r31, r32, r33, r34, r35, r36, r37, r38, r39, r40, r41, r42, r43, r44, r45, r46, r47, r48, r49, r50, r51, r52, r53, r54, r55, r56, r57, r58, r59, r60, r61, r62, r63, r64, r65, r66, r67, r68, r69, r70, r71, r72, r73, rfl⟩ eρ
            simp only [List.cons_append, List.nil_append] at eρ
            subst eρ
            refine ⟨rfl, To.no rfl ?_⟩
            refine To.viaK (by (try simp (disch := omega) only [X.den, X.dens, X.denss, D.int_i, D.boo_b, D.str_s, D.rows_l, List.getD_cons_zero, List.getD_cons_succ, List.cons_append, List.nil_append, List.append_nil, List.length_cons, List.length_nil, decide_eq_true_eq, decide_eq_false_iff_not, Bool.not_eq_true', Bool.not_eq_false', Bool.and_eq_true, Bool.and_eq_false_iff, Bool.true_eq_false, Bool.false_eq_true, Bool.not_true, Bool.not_false, eq_self, D.len_l, wr64, not_true_eq_false, not_false_eq_true]); exact srcN_to h3 (by omega) (by omega)) ?_
            rintro _ ρ2 ⟨n0, t4, rfl, p4, q4, h4⟩ eρ
            refine ⟨rfl, ?_⟩
            simp only [List.cons_append, List.nil_append] at eρ
            subst eρ
            refine To.viaK (by (try simp (disch := omega) only [X.den, X.dens, X.denss, D.int_i, D.boo_b, D.str_s, D.rows_l, List.getD_cons_zero, List.getD_cons_succ, List.cons_append, List.nil_append, List.append_nil, List.length_cons, List.length_nil, decide_eq_true_eq, decide_eq_false_iff_not, Bool.not_eq_true', Bool.not_eq_false', Bool.and_eq_true, Bool.and_eq_false_iff, Bool.true_eq_false, Bool.false_eq_true, Bool.not_true, Bool.not_false, eq_self, D.len_l, wr64, not_true_eq_false, not_false_eq_true]); exact srcOdd_to h4) ?_
            rintro _ ρ2 ⟨o2, t5, rfl, h5⟩ eρ
            refine ⟨rfl, ?_⟩
            simp only [List.cons_append, List.nil_append] at eρ
            subst eρ
            refine To.loopK (fun m l => ∃ j : Int, l = [.i j] ∧ 0 ≤ j ∧ j + m = 3) (fun l => ∃ rest, l = .i 1 :: rest ∧ rest.length = 47) 3 (by omega) ?_ ?_ ?_
            · exact ⟨0, by simp only [X.den, X.dens, X.denss, D.int_i, D.boo_b, D.str_s, D.rows_l, List.getD_cons_zero, List.getD_cons_succ, List.cons_append, List.nil_append, List.append_nil, List.length_cons, List.length_nil], by omega, by omega⟩
            · rintro m l ρ2 ⟨j, rfl, j0, j1⟩ eρ
              simp only [List.cons_append, List.nil_append] at eρ
              subst eρ
              refine To.ite (fun c => ?_) (fun c => ?_) <;> simp only [X.den, X.dens, X.denss, D.int_i, D.boo_b, D.str_s, D.rows_l, List.getD_cons_zero, List.getD_cons_succ, List.cons_append, List.nil_append, List.append_nil, List.length_cons, List.length_nil, decide_eq_true_eq, decide_eq_false_iff_not, Bool.not_eq_true', Bool.not_eq_false', Bool.and_eq_true, Bool.and_eq_false_iff, Bool.true_eq_false, Bool.false_eq_true, Bool.not_true, Bool.not_false, eq_self] at c
              · refine To.joinK (fun l => ∃ q, l = [q, q]) ?_ ?_
                · refine To.ite (fun c => To.ret ⟨rfl, _, rfl⟩) (fun c => To.ite (fun c => To.ret ⟨rfl, _, rfl⟩) (fun c => To.ret ⟨rfl, _, rfl⟩))
                rintro l ρ2 ⟨q, rfl⟩ eρ
                simp only [List.cons_append, List.nil_append] at eρ
                subst eρ
                refine To.loopK (fun m l => ∃ k : Int, l = [.i k] ∧ 0 ≤ k ∧ k + m = 2) (fun l => ∃ rest, l = .i 1 :: rest ∧ rest.length = 41) 2 (by omega) ?_ ?_ ?_
                · exact ⟨0, by simp only [X.den, X.dens, X.denss, D.int_i, D.boo_b, D.str_s, D.rows_l, List.getD_cons_zero, List.getD_cons_succ, List.cons_append, List.nil_append, List.append_nil, List.length_cons, List.length_nil], by omega, by omega⟩
                · rintro m l ρ2 ⟨k, rfl, k0, k1⟩ eρ
                  simp only [List.cons_append, List.nil_append] at eρ
                  subst eρ
                  refine To.ite (fun c => ?_) (fun c => ?_) <;> simp only [X.den, X.dens, X.denss, D.int_i, D.boo_b, D.str_s, D.rows_l, List.getD_cons_zero, List.getD_cons_succ, List.cons_append, List.nil_append, List.append_nil, List.length_cons, List.length_nil, decide_eq_true_eq, decide_eq_false_iff_not, Bool.not_eq_true', Bool.not_eq_false', Bool.and_eq_true, Bool.and_eq_false_iff, Bool.true_eq_false, Bool.false_eq_true, Bool.not_true, Bool.not_false, eq_self] at c
                  · refine To.joinK (fun l => ∃ rest, l = .i 1 :: rest) ?_ ?_
                    · refine To.joinK (fun l => ∃ v w, l = [v, w, v, w]) ?_ ?_
                      · refine To.ite (fun c => To.ret ⟨rfl, _, _, rfl⟩) (fun c => To.ret ⟨rfl, _, _, rfl⟩)
                      rintro l ρ2 ⟨v, w, rfl⟩ eρ
                      simp only [List.cons_append, List.nil_append] at eρ
                      subst eρ
                      obtain ⟨a1, a2, a3, ha⟩ := trn_ex v.int w.int q.int
                      refine To.callK (l := [.i a1, .i a2, .i a3]) (congrArg some ha) rfl _ (by simp only [List.cons_append, List.nil_append]; first | done | rfl) ?_
                      refine To.callK (l := [.i a1, .i a2, .i a3]) (congrArg some ha) rfl _ (by simp only [List.cons_append, List.nil_append]; first | done | rfl) ?_
                      refine To.joinK (fun l => ∃ z1 z2, l = [z1, z2, .b false]) ?_ ?_
                      · (repeat' (first
                            
                            | (refine To.subK (fun K hK => ?_))
                            | (refine To.need (by simp (disch := omega) only [X.den, X.dens, X.denss, D.int_i, D.boo_b, D.str_s, D.rows_l, List.getD_cons_zero, List.getD_cons_succ, List.cons_append, List.nil_append, List.append_nil, List.length_cons, List.length_nil, decide_eq_true_eq, decide_eq_false_iff_not, Bool.not_eq_true', Bool.not_eq_false', Bool.and_eq_true, Bool.and_eq_false_iff, Bool.true_eq_false, Bool.false_eq_true, Bool.not_true, Bool.not_false, eq_self, D.len_l, wr64, not_true_eq_false, not_false_eq_true, decide_true, Bool.not_true, and_self, Bool.and_self] <;> omega) ?_)
                            | (refine To.ite (fun c => ?_) (fun c => ?_) <;> ((try simp (disch := omega) only [X.den, X.dens, X.denss, D.int_i, D.boo_b, D.str_s, D.rows_l, List.getD_cons_zero, List.getD_cons_succ, List.cons_append, List.nil_append, List.append_nil, List.length_cons, List.length_nil, decide_eq_true_eq, decide_eq_false_iff_not, Bool.not_eq_true', Bool.not_eq_false', Bool.and_eq_true, Bool.and_eq_false_iff, Bool.true_eq_false, Bool.false_eq_true, Bool.not_true, Bool.not_false, eq_self, D.len_l, wr64, not_true_eq_false, not_false_eq_true, decide_true, Bool.not_true, and_self, Bool.and_self] at c) <;> (try (exfalso; omega))))
                            | (refine To.ret ⟨rfl, ?_⟩; (try simp (disch := omega) only [X.den, X.dens, X.denss, D.int_i, D.boo_b, D.str_s, D.rows_l, List.getD_cons_zero, List.getD_cons_succ, List.cons_append, List.nil_append, List.append_nil, List.length_cons, List.length_nil, decide_eq_true_eq, decide_eq_false_iff_not, Bool.not_eq_true', Bool.not_eq_false', Bool.and_eq_true, Bool.and_eq_false_iff, Bool.true_eq_false, Bool.false_eq_true, Bool.not_true, Bool.not_false, eq_self, D.len_l, wr64, not_true_eq_false, not_false_eq_true, decide_true, Bool.not_true, and_self, Bool.and_self]); refine hK _ _ (by simp only [List.cons_append, List.nil_append]; first | done | rfl) ?_; clear hK; clear K)))
                        all_goals (refine To.ret ⟨rfl, ?_⟩; simp only [X.den, X.dens, X.denss, D.int_i, D.boo_b, D.str_s, D.rows_l, List.getD_cons_zero, List.getD_cons_succ, List.cons_append, List.nil_append, List.append_nil, List.length_cons, List.length_nil, decide_true, Bool.not_true, Bool.and_self]; exact ⟨_, _, rfl⟩)
                      rintro l ρ2 ⟨z1, z2, rfl⟩ eρ
                      simp only [List.cons_append, List.nil_append] at eρ
                      subst eρ
                      refine To.no rfl ?_
                      obtain ⟨b1, b2, b3, hb⟩ := trn_ex v.int w.int q.int
                      refine To.callK (l := [.i b1, .i b2, .i b3]) (congrArg some hb) rfl _ (by simp only [List.cons_append, List.nil_append]; first | done | rfl) ?_
                      refine To.callK (l := [.i b1, .i b2, .i b3]) (congrArg some hb) rfl _ (by simp only [List.cons_append, List.nil_append]; first | done | rfl) ?_
                      refine To.joinK (fun l => ∃ z1 z2, l = [z1, z2, .b false]) ?_ ?_
                      · (repeat' (first
                            
                            | (refine To.subK (fun K hK => ?_))
                            | (refine To.need (by simp (disch := omega) only [X.den, X.dens, X.denss, D.int_i, D.boo_b, D.str_s, D.rows_l, List.getD_cons_zero, List.getD_cons_succ, List.cons_append, List.nil_append, List.append_nil, List.length_cons, List.length_nil, decide_eq_true_eq, decide_eq_false_iff_not, Bool.not_eq_true', Bool.not_eq_false', Bool.and_eq_true, Bool.and_eq_false_iff, Bool.true_eq_false, Bool.false_eq_true, Bool.not_true, Bool.not_false, eq_self, D.len_l, wr64, not_true_eq_false, not_false_eq_true, decide_true, Bool.not_true, and_self, Bool.and_self] <;> omega) ?_)
                            | (refine To.ite (fun c => ?_) (fun c => ?_) <;> ((try simp (disch := omega) only [X.den, X.dens, X.denss, D.int_i, D.boo_b, D.str_s, D.rows_l, List.getD_cons_zero, List.getD_cons_succ, List.cons_append, List.nil_append, List.append_nil, List.length_cons, List.length_nil, decide_eq_true_eq, decide_eq_false_iff_not, Bool.not_eq_true', Bool.not_eq_false', Bool.and_eq_true, Bool.and_eq_false_iff, Bool.true_eq_false, Bool.false_eq_true, Bool.not_true, Bool.not_false, eq_self, D.len_l, wr64, not_true_eq_false, not_false_eq_true, decide_true, Bool.not_true, and_self, Bool.and_self] at c) <;> (try (exfalso; omega))))
                            | (refine To.ret ⟨rfl, ?_⟩; (try simp (disch := omega) only [X.den, X.dens, X.denss, D.int_i, D.boo_b, D.str_s, D.rows_l, List.getD_cons_zero, List.getD_cons_succ, List.cons_append, List.nil_append, List.append_nil, List.length_cons, List.length_nil, decide_eq_true_eq, decide_eq_false_iff_not, Bool.not_eq_true', Bool.not_eq_false', Bool.and_eq_true, Bool.and_eq_false_iff, Bool.true_eq_false, Bool.false_eq_true, Bool.not_true, Bool.not_false, eq_self, D.len_l, wr64, not_true_eq_false, not_false_eq_true, decide_true, Bool.not_true, and_self, Bool.and_self]); refine hK _ _ (by simp only [List.cons_append, List.nil_append]; first | done | rfl) ?_; clear hK; clear K)))
                        all_goals (refine To.ret ⟨rfl, ?_⟩; simp only [X.den, X.dens, X.denss, D.int_i, D.boo_b, D.str_s, D.rows_l, List.getD_cons_zero, List.getD_cons_succ, List.cons_append, List.nil_append, List.append_nil, List.length_cons, List.length_nil, decide_true, Bool.not_true, Bool.and_self]; exact ⟨_, _, rfl⟩)
                      rintro l ρ2 ⟨z1, z2, rfl⟩ eρ
                      simp only [List.cons_append, List.nil_append] at eρ
                      subst eρ
                      refine To.no rfl ?_
                      obtain ⟨d1, d2, d3, hd⟩ := bdy_ex v.int w.int q.int
                      refine To.callK (l := [.i d1, .i d2, .i d3]) (congrArg some hd) rfl _ (by simp only [List.cons_append, List.nil_append]; first | done | rfl) ?_
                      refine To.callK (l := [.i d1, .i d2, .i d3]) (congrArg some hd) rfl _ (by simp only [List.cons_append, List.nil_append]; first | done | rfl) ?_
                      refine To.joinK (fun l => ∃ z1 z2, l = [z1, z2, .b false]) ?_ ?_
                      · (repeat' (first
                            
                            | (refine To.subK (fun K hK => ?_))
                            | (refine To.need (by simp (disch := omega) only [X.den, X.dens, X.denss, D.int_i, D.boo_b, D.str_s, D.rows_l, List.getD_cons_zero, List.getD_cons_succ, List.cons_append, List.nil_append, List.append_nil, List.length_cons, List.length_nil, decide_eq_true_eq, decide_eq_false_iff_not, Bool.not_eq_true', Bool.not_eq_false', Bool.and_eq_true, Bool.and_eq_false_iff, Bool.true_eq_false, Bool.false_eq_true, Bool.not_true, Bool.not_false, eq_self, D.len_l, wr64, not_true_eq_false, not_false_eq_true, decide_true, Bool.not_true, and_self, Bool.and_self] <;> omega) ?_)
                            | (refine To.ite (fun c => ?_) (fun c => ?_) <;> ((try simp (disch := omega) only [X.den, X.dens, X.denss, D.int_i, D.boo_b, D.str_s, D.rows_l, List.getD_cons_zero, List.getD_cons_succ, List.cons_append, List.nil_append, List.append_nil, List.length_cons, List.length_nil, decide_eq_true_eq, decide_eq_false_iff_not, Bool.not_eq_true', Bool.not_eq_false', Bool.and_eq_true, Bool.and_eq_false_iff, Bool.true_eq_false, Bool.false_eq_true, Bool.not_true, Bool.not_false, eq_self, D.len_l, wr64, not_true_eq_false, not_false_eq_true, decide_true, Bool.not_true, and_self, Bool.and_self] at c) <;> (try (exfalso; omega))))
                            | (refine To.ret ⟨rfl, ?_⟩; (try simp (disch := omega) only [X.den, X.dens, X.denss, D.int_i, D.boo_b, D.str_s, D.rows_l, List.getD_cons_zero, List.getD_cons_succ, List.cons_append, List.nil_append, List.append_nil, List.length_cons, List.length_nil, decide_eq_true_eq, decide_eq_false_iff_not, Bool.not_eq_true', Bool.not_eq_false', Bool.and_eq_true, Bool.and_eq_false_iff, Bool.true_eq_false, Bool.false_eq_true, Bool.not_true, Bool.not_false, eq_self, D.len_l, wr64, not_true_eq_false, not_false_eq_true, decide_true, Bool.not_true, and_self, Bool.and_self]); refine hK _ _ (by simp only [List.cons_append, List.nil_append]; first | done | rfl) ?_; clear hK; clear K)))
                        all_goals (refine To.ret ⟨rfl, ?_⟩; simp only [X.den, X.dens, X.denss, D.int_i, D.boo_b, D.str_s, D.rows_l, List.getD_cons_zero, List.getD_cons_succ, List.cons_append, List.nil_append, List.append_nil, List.length_cons, List.length_nil, decide_true, Bool.not_true, Bool.and_self]; exact ⟨_, _, rfl⟩)
                      rintro l ρ2 ⟨z1, z2, rfl⟩ eρ
                      simp only [List.cons_append, List.nil_append] at eρ
                      subst eρ
                      refine To.no rfl ?_
                      exact To.ret ⟨rfl, _, rfl⟩
                    rintro l ρ2 ⟨rest, rfl⟩ eρ
                    simp only [List.cons_append, List.nil_append] at eρ
                    subst eρ
                    refine To.no rfl (To.ret (.inl ⟨rfl, m - 1, by omega, k + 1, ?_, by omega, by omega⟩))
                    simp only [X.den, X.dens, X.denss, D.int_i, D.boo_b, D.str_s, D.rows_l, List.getD_cons_zero, List.getD_cons_succ, List.cons_append, List.nil_append, List.append_nil, List.length_cons, List.length_nil]
                  · exact To.ret (.inr ⟨rfl, _, rfl, rfl⟩)
                · rintro l ρ2 ⟨rest, rfl, hr⟩ eρ
                  simp only [List.cons_append, List.nil_append] at eρ
                  subst eρ
                  exact ⟨by simp [hr], To.no rfl (To.ret (.inl ⟨rfl, m - 1, by omega, j + 1, by simp only [X.den, X.dens, X.denss, D.int_i, D.boo_b, D.str_s, D.rows_l, List.getD_cons_zero, List.getD_cons_succ, List.cons_append, List.nil_append, List.append_nil, List.length_cons, List.length_nil], by omega, by omega⟩))⟩
              · exact To.ret (.inr ⟨rfl, _, rfl, rfl⟩)
            · rintro l ρ2 ⟨rest, rfl, hr⟩ eρ
              simp only [List.cons_append, List.nil_append] at eρ
              subst eρ
              exact ⟨by simp [hr], To.no rfl (To.ret ⟨rfl, t5, _, rfl, h5⟩)⟩
          rintro l ρ2 ⟨t9, rest, rfl, h9⟩ eρ
          simp only [List.cons_append, List.nil_append] at eρ
          subst eρ
          refine To.yes rfl (To.ret (.inl ⟨rfl, m - 1, by omega, t9, i + 1, ?_, h9, by omega, by omega⟩))
          simp only [X.den, X.dens, X.denss, D.int_i, D.boo_b, D.str_s, D.rows_l, List.getD_cons_zero, List.getD_cons_succ, List.cons_append, List.nil_append, List.append_nil, List.length_cons, List.length_nil]
        · exact To.ret (.inr ⟨rfl, _, _, _, _, rfl⟩)
      · rintro l ρ2 ⟨z1, z2, z3, z4, rfl⟩ eρ
        simp only [List.cons_append, List.nil_append] at eρ
        subst eρ
        refine ⟨rfl, To.no rfl (To.callK (l := [.b true]) hs rfl _ (by simp only [List.cons_append, List.nil_append]; first | done | rfl) (To.ret ?_))⟩
        simp only [X.den, X.dens, X.denss, D.int_i, D.boo_b, D.str_s, D.rows_l, List.getD_cons_zero, List.getD_cons_succ, List.cons_append, List.nil_append, List.append_nil, List.length_cons, List.length_nil]
    · cases h
def FrameExact_ps : List PK := fExact_K.ps
theorem FrameExact_all : Fx.LawOk Try.prog 4 FrameExact_ps :=
  law_all fe_ok rfl (by kernel_rfl) fun ds hw => by
    have hw' : WfR [.sl [.int .i64], .int .i64, .int .i64, .int .i64, .int .i64, .int .i64, .int .i64, .int .i64] ds := hw
    simp only [WfR, WfC] at hw'
    obtain ⟨d0, ds0, rfl, ⟨rows, rfl, _, _⟩, d1, ds1, rfl, _, d2, ds2, rfl, _, d3, ds3, rfl, _, d4, ds4, rfl, _, d5, ds5, rfl, _, d6, ds6, rfl, _, d7, ds7, rfl, _, rfl⟩ := hw'
    rfl
end Go.Proofs.Ytdkamfkpmplaoaa
