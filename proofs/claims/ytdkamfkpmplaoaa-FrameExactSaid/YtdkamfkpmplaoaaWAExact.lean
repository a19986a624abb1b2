/- AngleExact: all functions for any angles, arcs and vectors: the program's give what the reference's give. -/
import Derived.Test.YtdkamfkpmplaoaaAngS
import Derived.Test.YtdkamfkpmplaoaaAng
set_option linter.unusedVariables false
set_option linter.unusedSimpArgs false
namespace Go.Proofs.Ytdkamfkpmplaoaa
open Go.RowKit Fx
def saneR : List D → Option (List D) := fun ds => if ds = [] then some [.b true] else none
theorem sane02_ok : ConOk Try.prog sane02_K saneR := con_tot follows (M := noM) no_cons sane02_t rfl 0 fun ds outs hl h => by
  match ds, hl with
  | [], _ =>
    have h : some [D.b true] = some outs := h
    injection h with h
    subst h
    unfold sane02_T
    exact To.ret (by simp only [X.den, X.dens, X.denss, D.int_i, D.boo_b, D.str_s, D.rows_l, List.getD_cons_zero, List.getD_cons_succ, List.cons_append, List.nil_append, List.append_nil, List.length_cons, List.length_nil])
theorem srcOdd_ok : ConOk Try.prog srcOdd_K (srcOdd_T.run srcM 0) := con_run follows (one_con (srcN_ok.to _) no_cons) srcOdd_t rfl 0
theorem srcArc_ok : ConOk Try.prog srcArc_K (srcArc_T.run srcM 0) := con_run follows (one_con (srcN_ok.to _) no_cons) srcArc_t rfl 0
theorem srcOdd_to {rows : List (List D)} {at_ : Int} (h : SrcOk rows at_) : ∃ l, srcOdd_T.run srcM 0 [.l rows, .i at_] = some l ∧ ∃ d at', l = [d, .l rows, .i at'] ∧ SrcOk rows at' := by
  refine run_to ?_
  unfold srcOdd_T
  refine To.viaK (by (try simp (disch := omega) only [X.den, X.dens, X.denss, D.int_i, D.boo_b, D.str_s, D.rows_l, List.getD_cons_zero, List.getD_cons_succ, List.cons_append, List.nil_append, List.append_nil, List.length_cons, List.length_nil, decide_eq_true_eq, decide_eq_false_iff_not, Bool.not_eq_true', Bool.not_eq_false', Bool.and_eq_true, Bool.and_eq_false_iff, Bool.true_eq_false, Bool.false_eq_true, Bool.not_true, Bool.not_false, eq_self, D.len_l, wr64, not_true_eq_false, not_false_eq_true]); exact srcN_to h (by omega) (by omega)) ?_
  rintro _ ρ2 ⟨r, t0, rfl, a0, b0, h0⟩ eρ
  refine ⟨rfl, ?_⟩
  simp only [List.cons_append, List.nil_append] at eρ
  subst eρ
  refine To.need (by simp only [X.den, X.dens, X.denss, D.int_i, D.boo_b, D.str_s, D.rows_l, List.getD_cons_zero, List.getD_cons_succ, List.cons_append, List.nil_append, List.append_nil, List.length_cons, List.length_nil, decide_eq_true_eq, decide_eq_false_iff_not, Bool.not_eq_true', Bool.not_eq_false', Bool.and_eq_true, Bool.and_eq_false_iff, Bool.true_eq_false, Bool.false_eq_true, Bool.not_true, Bool.not_false, eq_self]; omega) (To.ret ?_)
  simp only [X.den, X.dens, X.denss, D.int_i, D.boo_b, D.str_s, D.rows_l, List.getD_cons_zero, List.getD_cons_succ, List.cons_append, List.nil_append, List.append_nil, List.length_cons, List.length_nil]
  exact ⟨_, _, rfl, h0⟩
theorem srcArc_to {rows : List (List D)} {at_ : Int} (h : SrcOk rows at_) : ∃ l, srcArc_T.run srcM 0 [.l rows, .i at_] = some l ∧ ∃ d e at', l = [d, e, .l rows, .i at'] ∧ SrcOk rows at' := by
  refine run_to ?_
  unfold srcArc_T
  refine To.viaK (by (try simp (disch := omega) only [X.den, X.dens, X.denss, D.int_i, D.boo_b, D.str_s, D.rows_l, List.getD_cons_zero, List.getD_cons_succ, List.cons_append, List.nil_append, List.append_nil, List.length_cons, List.length_nil, decide_eq_true_eq, decide_eq_false_iff_not, Bool.not_eq_true', Bool.not_eq_false', Bool.and_eq_true, Bool.and_eq_false_iff, Bool.true_eq_false, Bool.false_eq_true, Bool.not_true, Bool.not_false, eq_self, D.len_l, wr64, not_true_eq_false, not_false_eq_true]); exact srcN_to h (by omega) (by omega)) ?_
  rintro _ ρ2 ⟨r, t0, rfl, a0, b0, h0⟩ eρ
  refine ⟨rfl, ?_⟩
  simp only [List.cons_append, List.nil_append] at eρ
  subst eρ
  refine To.need (by simp only [X.den, X.dens, X.denss, D.int_i, D.boo_b, D.str_s, D.rows_l, List.getD_cons_zero, List.getD_cons_succ, List.cons_append, List.nil_append, List.append_nil, List.length_cons, List.length_nil, decide_eq_true_eq, decide_eq_false_iff_not, Bool.not_eq_true', Bool.not_eq_false', Bool.and_eq_true, Bool.and_eq_false_iff, Bool.true_eq_false, Bool.false_eq_true, Bool.not_true, Bool.not_false, eq_self]; omega) ?_
  refine To.viaK (by (try simp (disch := omega) only [X.den, X.dens, X.denss, D.int_i, D.boo_b, D.str_s, D.rows_l, List.getD_cons_zero, List.getD_cons_succ, List.cons_append, List.nil_append, List.append_nil, List.length_cons, List.length_nil, decide_eq_true_eq, decide_eq_false_iff_not, Bool.not_eq_true', Bool.not_eq_false', Bool.and_eq_true, Bool.and_eq_false_iff, Bool.true_eq_false, Bool.false_eq_true, Bool.not_true, Bool.not_false, eq_self, D.len_l, wr64, not_true_eq_false, not_false_eq_true]); exact srcN_to h0 (by omega) (by omega)) ?_
  rintro _ ρ2 ⟨r1, t1, rfl, a1, b1, h1⟩ eρ
  refine ⟨rfl, ?_⟩
  simp only [List.cons_append, List.nil_append] at eρ
  subst eρ
  refine To.need (by simp only [X.den, X.dens, X.denss, D.int_i, D.boo_b, D.str_s, D.rows_l, List.getD_cons_zero, List.getD_cons_succ, List.cons_append, List.nil_append, List.append_nil, List.length_cons, List.length_nil, decide_eq_true_eq, decide_eq_false_iff_not, Bool.not_eq_true', Bool.not_eq_false', Bool.and_eq_true, Bool.and_eq_false_iff, Bool.true_eq_false, Bool.false_eq_true, Bool.not_true, Bool.not_false, eq_self]; omega) (To.ret ?_)
  simp only [X.den, X.dens, X.denss, D.int_i, D.boo_b, D.str_s, D.rows_l, List.getD_cons_zero, List.getD_cons_succ, List.cons_append, List.nil_append, List.append_nil, List.length_cons, List.length_nil]
  exact ⟨_, _, _, rfl, h1⟩
noncomputable def aeM : Models := Models.on srcN_K.f (srcN_T.run noM 0) (Models.on srcOdd_K.f (srcOdd_T.run srcM 0) (Models.on srcArc_K.f (srcArc_T.run srcM 0) (Models.on pNorm_K.f (F1 nm) (Models.on rNorm_K.f (F1 nm) (Models.on pSin_K.f (F1 sn) (Models.on rSin_K.f (F1 sn) (Models.on pCos_K.f (F1 cs) (Models.on rCos_K.f (F1 cs) (Models.on pDiff_K.f (F2 df) (Models.on rDiff_K.f (F2 df) (Models.on pCross_K.f (F3 cr) (Models.on rCross_K.f (F3 cr) (Models.on pValid_K.f (B2 vd) (Models.on rValid_K.f (B2 vd) (Models.on pWidth_K.f (F2 wd) (Models.on rWidth_K.f (F2 wd) (Models.on pIn_K.f (B3 inA) (Models.on rIn_K.f (B3 inA) (Models.on pWithin_K.f (B4 wi) (Models.on rWithin_K.f (B4 wi) (Models.on sane02_K.f saneR noM)))))))))))))))))))))
def aeR : List D → Option (List D) := fun ds => match ds with
  | [.l rows, a, b, x, y, r1, r2] => some [.b true]
  | _ => none
theorem src_take02 {rows : List (List D)} : SrcOk (rows.take (min (min (rows.length : Int) 9223372036854775807) 600).toNat) 0 := ⟨by omega, by omega, by rw [List.length_take]; omega⟩
theorem ae_ok : ConOk Try.prog aExact_K aeR :=
  con_of follows (M := aeM) (one_con (srcN_ok.to _) (one_con (srcOdd_ok.to _) (one_con (srcArc_ok.to _) (one_con (pNorm_ok.to _) (one_con (rNorm_ok.to _) (one_con (pSin_ok.to _) (one_con (rSin_ok.to _) (one_con (pCos_ok.to _) (one_con (rCos_ok.to _) (one_con (pDiff_ok.to _) (one_con (rDiff_ok.to _) (one_con (pCross_ok.to _) (one_con (rCross_ok.to _) (one_con (pValid_ok.to _) (one_con (rValid_ok.to _) (one_con (pWidth_ok.to _) (one_con (rWidth_ok.to _) (one_con (pIn_ok.to _) (one_con (rIn_ok.to _) (one_con (pWithin_ok.to _) (one_con (rWithin_ok.to _) (one_con (sane02_ok.to _) no_cons)))))))))))))))))))))) aExact_t fun ds outs hl h => by
    unfold aeR at h
    split at h
    · rename_i rows a b x y r1 r2
      injection h with h
      subst h
      have hs : saneR [] = some [D.b true] := if_pos rfl
      refine ⟨fun i l h k => by simp [aExact_K] at k, 10, ?_⟩
      unfold aExact_T
      refine To.need (by simp only [X.den, X.dens, X.denss, D.int_i, D.boo_b, D.str_s, D.rows_l, List.getD_cons_zero, List.getD_cons_succ, List.cons_append, List.nil_append, List.append_nil, List.length_cons, List.length_nil, decide_eq_true_eq, decide_eq_false_iff_not, Bool.not_eq_true', Bool.not_eq_false', Bool.and_eq_true, Bool.and_eq_false_iff, Bool.true_eq_false, Bool.false_eq_true, Bool.not_true, Bool.not_false, eq_self, D.len_l]; omega) ?_
      refine To.viaK (by (try simp (disch := omega) only [X.den, X.dens, X.denss, D.int_i, D.boo_b, D.str_s, D.rows_l, List.getD_cons_zero, List.getD_cons_succ, List.cons_append, List.nil_append, List.append_nil, List.length_cons, List.length_nil, decide_eq_true_eq, decide_eq_false_iff_not, Bool.not_eq_true', Bool.not_eq_false', Bool.and_eq_true, Bool.and_eq_false_iff, Bool.true_eq_false, Bool.false_eq_true, Bool.not_true, Bool.not_false, eq_self, D.len_l, wr64, not_true_eq_false, not_false_eq_true]); exact srcN_to src_take02 (by omega) (by omega)) ?_
      rintro _ ρ2 ⟨n0, t1, rfl, p1, q1, h1⟩ eρ
      refine ⟨rfl, ?_⟩
      simp only [List.cons_append, List.nil_append] at eρ
      subst eρ
      generalize (List.take _ _ : List (List D)) = rs at h1 ⊢
      refine To.viaK (by (try simp (disch := omega) only [X.den, X.dens, X.denss, D.int_i, D.boo_b, D.str_s, D.rows_l, List.getD_cons_zero, List.getD_cons_succ, List.cons_append, List.nil_append, List.append_nil, List.length_cons, List.length_nil, decide_eq_true_eq, decide_eq_false_iff_not, Bool.not_eq_true', Bool.not_eq_false', Bool.and_eq_true, Bool.and_eq_false_iff, Bool.true_eq_false, Bool.false_eq_true, Bool.not_true, Bool.not_false, eq_self, D.len_l, wr64, not_true_eq_false, not_false_eq_true]); exact srcOdd_to h1) ?_
      rintro _ ρ2 ⟨o1, t2, rfl, h2⟩ eρ
      refine ⟨rfl, ?_⟩
      simp only [List.cons_append, List.nil_append] at eρ
      subst eρ
      refine To.loopK (fun m l => ∃ t i : Int, l = [.l rs, .i t, .i i] ∧ SrcOk rs t ∧ 0 ≤ i ∧ i + m = 4) (fun l => ∃ z1 z2, l = [.i 1, z1, z2]) 4 (by omega) ?_ ?_ ?_
      · exact ⟨t2, 0, by simp only [X.den, X.dens, X.denss, D.int_i, D.boo_b, D.str_s, D.rows_l, List.getD_cons_zero, List.getD_cons_succ, List.cons_append, List.nil_append, List.append_nil, List.length_cons, List.length_nil], h2, by omega, by omega⟩
      · rintro m l ρ2 ⟨t3, i, rfl, h3, i0, i1⟩ eρ
        simp only [List.cons_append, List.nil_append] at eρ
        subst eρ
        refine To.ite (fun c => ?_) (fun c => ?_) <;> simp only [X.den, X.dens, X.denss, D.int_i, D.boo_b, D.str_s, D.rows_l, List.getD_cons_zero, List.getD_cons_succ, List.cons_append, List.nil_append, List.append_nil, List.length_cons, List.length_nil, decide_eq_true_eq, decide_eq_false_iff_not, Bool.not_eq_true', Bool.not_eq_false', Bool.and_eq_true, Bool.and_eq_false_iff, Bool.true_eq_false, Bool.false_eq_true, Bool.not_true, Bool.not_false, eq_self] at c
        · refine To.joinK (fun l => ∃ t rest, l = .i 1 :: .l rs :: .i t :: rest ∧ SrcOk rs t) ?_ ?_
          · refine To.joinK (fun l => ∃ p, l = [p, p]) ?_ ?_
            · refine To.ite (fun c => To.ret ⟨rfl, _, rfl⟩) (fun c => To.ite (fun c => To.ret ⟨rfl, _, rfl⟩) (fun c => To.ite (fun c => To.ret ⟨rfl, _, rfl⟩) (fun c => To.ret ⟨rfl, _, rfl⟩)))
            rintro l ρ2 ⟨p, rfl⟩ eρ
            simp only [List.cons_append, List.nil_append] at eρ
            subst eρ
            refine To.joinK (fun l => ∃ z1 z2 z3 z4 z5 z6, l = [z1, z2, z3, z4, z5, z6, .b false]) ?_ ?_
            · (repeat' (first
                  | (refine To.callX rfl (fun ρ2 eρ => ⟨rfl, ?_⟩); simp (disch := omega) only [X.den, X.dens, X.denss, D.int_i, D.boo_b, D.str_s, D.rows_l, List.getD_cons_zero, List.getD_cons_succ, List.cons_append, List.nil_append, List.append_nil, List.length_cons, List.length_nil, decide_eq_true_eq, decide_eq_false_iff_not, Bool.not_eq_true', Bool.not_eq_false', Bool.and_eq_true, Bool.and_eq_false_iff, Bool.true_eq_false, Bool.false_eq_true, Bool.not_true, Bool.not_false, eq_self, D.len_l, wr64, not_true_eq_false, not_false_eq_true, ia, decide_true, Bool.not_true] at eρ; subst eρ)
                  | (refine To.subK (fun K hK => ?_))
                  | (refine To.need (by simp (disch := omega) only [X.den, X.dens, X.denss, D.int_i, D.boo_b, D.str_s, D.rows_l, List.getD_cons_zero, List.getD_cons_succ, List.cons_append, List.nil_append, List.append_nil, List.length_cons, List.length_nil, decide_eq_true_eq, decide_eq_false_iff_not, Bool.not_eq_true', Bool.not_eq_false', Bool.and_eq_true, Bool.and_eq_false_iff, Bool.true_eq_false, Bool.false_eq_true, Bool.not_true, Bool.not_false, eq_self, D.len_l, wr64, not_true_eq_false, not_false_eq_true, ia, decide_true, Bool.not_true] <;> omega) ?_)
                  | (refine To.ite (fun c => ?_) (fun c => ?_) <;> ((try simp (disch := omega) only [X.den, X.dens, X.denss, D.int_i, D.boo_b, D.str_s, D.rows_l, List.getD_cons_zero, List.getD_cons_succ, List.cons_append, List.nil_append, List.append_nil, List.length_cons, List.length_nil, decide_eq_true_eq, decide_eq_false_iff_not, Bool.not_eq_true', Bool.not_eq_false', Bool.and_eq_true, Bool.and_eq_false_iff, Bool.true_eq_false, Bool.false_eq_true, Bool.not_true, Bool.not_false, eq_self, D.len_l, wr64, not_true_eq_false, not_false_eq_true, ia, decide_true, Bool.not_true] at c) <;> (try (exfalso; omega))))
                  | (refine To.ret ⟨rfl, ?_⟩; (try simp (disch := omega) only [X.den, X.dens, X.denss, D.int_i, D.boo_b, D.str_s, D.rows_l, List.getD_cons_zero, List.getD_cons_succ, List.cons_append, List.nil_append, List.append_nil, List.length_cons, List.length_nil, decide_eq_true_eq, decide_eq_false_iff_not, Bool.not_eq_true', Bool.not_eq_false', Bool.and_eq_true, Bool.and_eq_false_iff, Bool.true_eq_false, Bool.false_eq_true, Bool.not_true, Bool.not_false, eq_self, D.len_l, wr64, not_true_eq_false, not_false_eq_true, ia, decide_true, Bool.not_true]); refine hK _ _ (by simp only [List.cons_append, List.nil_append]; first | done | rfl) ?_; clear hK; clear K)))
              all_goals (refine To.ret ⟨rfl, ?_⟩; simp only [X.den, X.dens, X.denss, D.int_i, D.boo_b, D.str_s, D.rows_l, List.getD_cons_zero, List.getD_cons_succ, List.cons_append, List.nil_append, List.append_nil, List.length_cons, List.length_nil, decide_true, Bool.not_true]; exact ⟨_, _, _, _, _, _, rfl⟩)
            rintro l ρ2 ⟨z1, z2, z3, z4, z5, z6, rfl⟩ eρ
            simp only [List.cons_append, List.nil_append] at eρ
            subst eρ
            refine To.no rfl ?_
            refine To.viaK (by (try simp (disch := omega) only [X.den, X.dens, X.denss, D.int_i, D.boo_b, D.str_s, D.rows_l, List.getD_cons_zero, List.getD_cons_succ, List.cons_append, List.nil_append, List.append_nil, List.length_cons, List.length_nil, decide_eq_true_eq, decide_eq_false_iff_not, Bool.not_eq_true', Bool.not_eq_false', Bool.and_eq_true, Bool.and_eq_false_iff, Bool.true_eq_false, Bool.false_eq_true, Bool.not_true, Bool.not_false, eq_self, D.len_l, wr64, not_true_eq_false, not_false_eq_true]); exact srcN_to h3 (by omega) (by omega)) ?_
            rintro _ ρ2 ⟨n1, t4, rfl, p4, q4, h4⟩ eρ
            refine ⟨rfl, ?_⟩
            simp only [List.cons_append, List.nil_append] at eρ
            subst eρ
            refine To.loopK (fun m l => ∃ j : Int, l = [.i j] ∧ 0 ≤ j ∧ j + m = 3) (fun l => ∃ z1 z2 z3 z4 z5 z6 z7 z8 z9, l = [.i 1, z1, z2, z3, z4, z5, z6, z7, z8, z9]) 3 (by omega) ?_ ?_ ?_
            · exact ⟨0, by simp only [X.den, X.dens, X.denss, D.int_i, D.boo_b, D.str_s, D.rows_l, List.getD_cons_zero, List.getD_cons_succ, List.cons_append, List.nil_append, List.append_nil, List.length_cons, List.length_nil], by omega, by omega⟩
            · rintro m l ρ2 ⟨j, rfl, j0, j1⟩ eρ
              simp only [List.cons_append, List.nil_append] at eρ
              subst eρ
              refine To.ite (fun c => ?_) (fun c => ?_) <;> simp only [X.den, X.dens, X.denss, D.int_i, D.boo_b, D.str_s, D.rows_l, List.getD_cons_zero, List.getD_cons_succ, List.cons_append, List.nil_append, List.append_nil, List.length_cons, List.length_nil, decide_eq_true_eq, decide_eq_false_iff_not, Bool.not_eq_true', Bool.not_eq_false', Bool.and_eq_true, Bool.and_eq_false_iff, Bool.true_eq_false, Bool.false_eq_true, Bool.not_true, Bool.not_false, eq_self] at c
              · refine To.joinK (fun l => ∃ q, l = [q, q]) ?_ ?_
                · refine To.ite (fun c => To.ret ⟨rfl, _, rfl⟩) (fun c => To.ite (fun c => To.ret ⟨rfl, _, rfl⟩) (fun c => To.ret ⟨rfl, _, rfl⟩))
                rintro l ρ2 ⟨q, rfl⟩ eρ
                simp only [List.cons_append, List.nil_append] at eρ
                subst eρ
                (repeat' (first
                    | (refine To.callX rfl (fun ρ2 eρ => ⟨rfl, ?_⟩); simp (disch := omega) only [X.den, X.dens, X.denss, D.int_i, D.boo_b, D.str_s, D.rows_l, List.getD_cons_zero, List.getD_cons_succ, List.cons_append, List.nil_append, List.append_nil, List.length_cons, List.length_nil, decide_eq_true_eq, decide_eq_false_iff_not, Bool.not_eq_true', Bool.not_eq_false', Bool.and_eq_true, Bool.and_eq_false_iff, Bool.true_eq_false, Bool.false_eq_true, Bool.not_true, Bool.not_false, eq_self, D.len_l, wr64, not_true_eq_false, not_false_eq_true, ia] at eρ; subst eρ)
                    | (refine To.subK (fun K hK => ?_))
                    | (refine To.need (by simp (disch := omega) only [X.den, X.dens, X.denss, D.int_i, D.boo_b, D.str_s, D.rows_l, List.getD_cons_zero, List.getD_cons_succ, List.cons_append, List.nil_append, List.append_nil, List.length_cons, List.length_nil, decide_eq_true_eq, decide_eq_false_iff_not, Bool.not_eq_true', Bool.not_eq_false', Bool.and_eq_true, Bool.and_eq_false_iff, Bool.true_eq_false, Bool.false_eq_true, Bool.not_true, Bool.not_false, eq_self, D.len_l, wr64, not_true_eq_false, not_false_eq_true, ia] <;> omega) ?_)
                    | (refine To.ite (fun c => ?_) (fun c => ?_) <;> ((try simp (disch := omega) only [X.den, X.dens, X.denss, D.int_i, D.boo_b, D.str_s, D.rows_l, List.getD_cons_zero, List.getD_cons_succ, List.cons_append, List.nil_append, List.append_nil, List.length_cons, List.length_nil, decide_eq_true_eq, decide_eq_false_iff_not, Bool.not_eq_true', Bool.not_eq_false', Bool.and_eq_true, Bool.and_eq_false_iff, Bool.true_eq_false, Bool.false_eq_true, Bool.not_true, Bool.not_false, eq_self, D.len_l, wr64, not_true_eq_false, not_false_eq_true, ia] at c) <;> (try (exfalso; omega))))
                    | (refine To.ret ⟨rfl, ?_⟩; (try simp (disch := omega) only [X.den, X.dens, X.denss, D.int_i, D.boo_b, D.str_s, D.rows_l, List.getD_cons_zero, List.getD_cons_succ, List.cons_append, List.nil_append, List.append_nil, List.length_cons, List.length_nil, decide_eq_true_eq, decide_eq_false_iff_not, Bool.not_eq_true', Bool.not_eq_false', Bool.and_eq_true, Bool.and_eq_false_iff, Bool.true_eq_false, Bool.false_eq_true, Bool.not_true, Bool.not_false, eq_self, D.len_l, wr64, not_true_eq_false, not_false_eq_true, ia]); refine hK _ _ (by simp only [List.cons_append, List.nil_append]; first | done | rfl) ?_; clear hK; clear K)))
                all_goals (refine To.ret (.inl ⟨rfl, m - 1, by omega, j + 1, ?_, by omega, by omega⟩); simp only [X.den, X.dens, X.denss, D.int_i, D.boo_b, D.str_s, D.rows_l, List.getD_cons_zero, List.getD_cons_succ, List.cons_append, List.nil_append, List.append_nil, List.length_cons, List.length_nil])
              · exact To.ret (.inr ⟨rfl, _, _, _, _, _, _, _, _, _, rfl⟩)
            rintro l ρ2 ⟨y1, y2, y3, y4, y5, y6, y7, y8, y9, rfl⟩ eρ
            simp only [List.cons_append, List.nil_append] at eρ
            subst eρ
            refine ⟨rfl, To.no rfl ?_⟩
            refine To.viaK (by (try simp (disch := omega) only [X.den, X.dens, X.denss, D.int_i, D.boo_b, D.str_s, D.rows_l, List.getD_cons_zero, List.getD_cons_succ, List.cons_append, List.nil_append, List.append_nil, List.length_cons, List.length_nil, decide_eq_true_eq, decide_eq_false_iff_not, Bool.not_eq_true', Bool.not_eq_false', Bool.and_eq_true, Bool.and_eq_false_iff, Bool.true_eq_false, Bool.false_eq_true, Bool.not_true, Bool.not_false, eq_self, D.len_l, wr64, not_true_eq_false, not_false_eq_true]); exact srcN_to h4 (by omega) (by omega)) ?_
            rintro _ ρ2 ⟨n5, t5, rfl, p5, q5, h5⟩ eρ
            refine ⟨rfl, ?_⟩
            simp only [List.cons_append, List.nil_append] at eρ
            subst eρ
            refine To.viaK (by (try simp (disch := omega) only [X.den, X.dens, X.denss, D.int_i, D.boo_b, D.str_s, D.rows_l, List.getD_cons_zero, List.getD_cons_succ, List.cons_append, List.nil_append, List.append_nil, List.length_cons, List.length_nil, decide_eq_true_eq, decide_eq_false_iff_not, Bool.not_eq_true', Bool.not_eq_false', Bool.and_eq_true, Bool.and_eq_false_iff, Bool.true_eq_false, Bool.false_eq_true, Bool.not_true, Bool.not_false, eq_self, D.len_l, wr64, not_true_eq_false, not_false_eq_true]); exact srcN_to h5 (by omega) (by omega)) ?_
            rintro _ ρ2 ⟨n6, t6, rfl, p6, q6, h6⟩ eρ
            refine ⟨rfl, ?_⟩
            simp only [List.cons_append, List.nil_append] at eρ
            subst eρ
            refine To.viaK (by (try simp (disch := omega) only [X.den, X.dens, X.denss, D.int_i, D.boo_b, D.str_s, D.rows_l, List.getD_cons_zero, List.getD_cons_succ, List.cons_append, List.nil_append, List.append_nil, List.length_cons, List.length_nil, decide_eq_true_eq, decide_eq_false_iff_not, Bool.not_eq_true', Bool.not_eq_false', Bool.and_eq_true, Bool.and_eq_false_iff, Bool.true_eq_false, Bool.false_eq_true, Bool.not_true, Bool.not_false, eq_self, D.len_l, wr64, not_true_eq_false, not_false_eq_true]); exact srcN_to h6 (by omega) (by omega)) ?_
            rintro _ ρ2 ⟨n7, t7, rfl, p7, q7, h7⟩ eρ
            refine ⟨rfl, ?_⟩
            simp only [List.cons_append, List.nil_append] at eρ
            subst eρ
            refine To.viaK (by (try simp (disch := omega) only [X.den, X.dens, X.denss, D.int_i, D.boo_b, D.str_s, D.rows_l, List.getD_cons_zero, List.getD_cons_succ, List.cons_append, List.nil_append, List.append_nil, List.length_cons, List.length_nil, decide_eq_true_eq, decide_eq_false_iff_not, Bool.not_eq_true', Bool.not_eq_false', Bool.and_eq_true, Bool.and_eq_false_iff, Bool.true_eq_false, Bool.false_eq_true, Bool.not_true, Bool.not_false, eq_self, D.len_l, wr64, not_true_eq_false, not_false_eq_true]); exact srcOdd_to h7) ?_
            rintro _ ρ2 ⟨o8, t8, rfl, h8⟩ eρ
            refine ⟨rfl, ?_⟩
            simp only [List.cons_append, List.nil_append] at eρ
            subst eρ
            refine To.viaK (by (try simp (disch := omega) only [X.den, X.dens, X.denss, D.int_i, D.boo_b, D.str_s, D.rows_l, List.getD_cons_zero, List.getD_cons_succ, List.cons_append, List.nil_append, List.append_nil, List.length_cons, List.length_nil, decide_eq_true_eq, decide_eq_false_iff_not, Bool.not_eq_true', Bool.not_eq_false', Bool.and_eq_true, Bool.and_eq_false_iff, Bool.true_eq_false, Bool.false_eq_true, Bool.not_true, Bool.not_false, eq_self, D.len_l, wr64, not_true_eq_false, not_false_eq_true]); exact srcOdd_to h8) ?_
            rintro _ ρ2 ⟨o9, t9, rfl, h9⟩ eρ
            refine ⟨rfl, ?_⟩
            simp only [List.cons_append, List.nil_append] at eρ
            subst eρ
            refine To.loopK (fun m l => ∃ t i : Int, l = [.l rs, .i t, .i i] ∧ SrcOk rs t ∧ 0 ≤ i ∧ i + m = 4) (fun l => ∃ t rest, l = .i 1 :: .l rs :: .i t :: rest ∧ rest.length = 13 ∧ SrcOk rs t) 4 (by omega) ?_ ?_ ?_
            · exact ⟨t9, 0, by simp only [X.den, X.dens, X.denss, D.int_i, D.boo_b, D.str_s, D.rows_l, List.getD_cons_zero, List.getD_cons_succ, List.cons_append, List.nil_append, List.append_nil, List.length_cons, List.length_nil], h9, by omega, by omega⟩
            · rintro m l ρ2 ⟨u1, k, rfl, g1, k0, k1⟩ eρ
              simp only [List.cons_append, List.nil_append] at eρ
              subst eρ
              refine To.ite (fun c => ?_) (fun c => ?_) <;> simp only [X.den, X.dens, X.denss, D.int_i, D.boo_b, D.str_s, D.rows_l, List.getD_cons_zero, List.getD_cons_succ, List.cons_append, List.nil_append, List.append_nil, List.length_cons, List.length_nil, decide_eq_true_eq, decide_eq_false_iff_not, Bool.not_eq_true', Bool.not_eq_false', Bool.and_eq_true, Bool.and_eq_false_iff, Bool.true_eq_false, Bool.false_eq_true, Bool.not_true, Bool.not_false, eq_self] at c
              · refine To.joinK (fun l => ∃ t rest, l = .i 0 :: .l rs :: .i t :: rest ∧ SrcOk rs t) ?_ ?_
                · refine To.joinK (fun l => ∃ v w, l = [v, w, v, w]) ?_ ?_
                  · refine To.ite (fun c => To.ret ⟨rfl, _, _, rfl⟩) (fun c => To.ite (fun c => To.ret ⟨rfl, _, _, rfl⟩) (fun c => To.ite (fun c => To.ret ⟨rfl, _, _, rfl⟩) (fun c => To.ret ⟨rfl, _, _, rfl⟩)))
                  rintro l ρ2 ⟨v, w, rfl⟩ eρ
                  simp only [List.cons_append, List.nil_append] at eρ
                  subst eρ
                  refine To.callX rfl (fun ρ2 eρ => ⟨rfl, ?_⟩)
                  simp only [X.den, X.dens, X.denss, D.int_i, D.boo_b, D.str_s, D.rows_l, List.getD_cons_zero, List.getD_cons_succ, List.cons_append, List.nil_append, List.append_nil, List.length_cons, List.length_nil, ia] at eρ
                  subst eρ
                  refine To.callX rfl (fun ρ2 eρ => ⟨rfl, ?_⟩)
                  simp only [X.den, X.dens, X.denss, D.int_i, D.boo_b, D.str_s, D.rows_l, List.getD_cons_zero, List.getD_cons_succ, List.cons_append, List.nil_append, List.append_nil, List.length_cons, List.length_nil, ia] at eρ
                  subst eρ
                  refine To.yes (by simp only [X.den, X.dens, X.denss, D.int_i, D.boo_b, D.str_s, D.rows_l, List.getD_cons_zero, List.getD_cons_succ, List.cons_append, List.nil_append, List.append_nil, List.length_cons, List.length_nil]; simp) ?_
                  refine To.viaK (by (try simp (disch := omega) only [X.den, X.dens, X.denss, D.int_i, D.boo_b, D.str_s, D.rows_l, List.getD_cons_zero, List.getD_cons_succ, List.cons_append, List.nil_append, List.append_nil, List.length_cons, List.length_nil, decide_eq_true_eq, decide_eq_false_iff_not, Bool.not_eq_true', Bool.not_eq_false', Bool.and_eq_true, Bool.and_eq_false_iff, Bool.true_eq_false, Bool.false_eq_true, Bool.not_true, Bool.not_false, eq_self, D.len_l, wr64, not_true_eq_false, not_false_eq_true]); exact srcArc_to g1) ?_
                  rintro _ ρ2 ⟨c1, c2, u2, rfl, g2⟩ eρ
                  refine ⟨rfl, ?_⟩
                  simp only [List.cons_append, List.nil_append] at eρ
                  subst eρ
                  refine To.viaK (by (try simp (disch := omega) only [X.den, X.dens, X.denss, D.int_i, D.boo_b, D.str_s, D.rows_l, List.getD_cons_zero, List.getD_cons_succ, List.cons_append, List.nil_append, List.append_nil, List.length_cons, List.length_nil, decide_eq_true_eq, decide_eq_false_iff_not, Bool.not_eq_true', Bool.not_eq_false', Bool.and_eq_true, Bool.and_eq_false_iff, Bool.true_eq_false, Bool.false_eq_true, Bool.not_true, Bool.not_false, eq_self, D.len_l, wr64, not_true_eq_false, not_false_eq_true]); exact srcN_to g2 (by omega) (by omega)) ?_
                  rintro _ ρ2 ⟨n8, u3, rfl, p8, q8, g3⟩ eρ
                  refine ⟨rfl, ?_⟩
                  simp only [List.cons_append, List.nil_append] at eρ
                  subst eρ
                  refine To.viaK (by (try simp (disch := omega) only [X.den, X.dens, X.denss, D.int_i, D.boo_b, D.str_s, D.rows_l, List.getD_cons_zero, List.getD_cons_succ, List.cons_append, List.nil_append, List.append_nil, List.length_cons, List.length_nil, decide_eq_true_eq, decide_eq_false_iff_not, Bool.not_eq_true', Bool.not_eq_false', Bool.and_eq_true, Bool.and_eq_false_iff, Bool.true_eq_false, Bool.false_eq_true, Bool.not_true, Bool.not_false, eq_self, D.len_l, wr64, not_true_eq_false, not_false_eq_true]); exact srcN_to g3 (by omega) (by omega)) ?_
                  rintro _ ρ2 ⟨n9, u4, rfl, p9, q9, g4⟩ eρ
                  refine ⟨rfl, ?_⟩
                  simp only [List.cons_append, List.nil_append] at eρ
                  subst eρ
                  refine To.loopK (fun m l => ∃ j : Int, l = [.i j] ∧ 0 ≤ j ∧ j + m = 3) (fun l => ∃ rest, l = .i 1 :: rest ∧ rest.length = 19) 3 (by omega) ?_ ?_ ?_
                  · exact ⟨0, by simp only [X.den, X.dens, X.denss, D.int_i, D.boo_b, D.str_s, D.rows_l, List.getD_cons_zero, List.getD_cons_succ, List.cons_append, List.nil_append, List.append_nil, List.length_cons, List.length_nil], by omega, by omega⟩
                  · rintro m l ρ2 ⟨j, rfl, j0, j1⟩ eρ
                    simp only [List.cons_append, List.nil_append] at eρ
                    subst eρ
                    refine To.ite (fun c => ?_) (fun c => ?_) <;> simp only [X.den, X.dens, X.denss, D.int_i, D.boo_b, D.str_s, D.rows_l, List.getD_cons_zero, List.getD_cons_succ, List.cons_append, List.nil_append, List.append_nil, List.length_cons, List.length_nil, decide_eq_true_eq, decide_eq_false_iff_not, Bool.not_eq_true', Bool.not_eq_false', Bool.and_eq_true, Bool.and_eq_false_iff, Bool.true_eq_false, Bool.false_eq_true, Bool.not_true, Bool.not_false, eq_self] at c
                    · refine To.joinK (fun l => ∃ v w, l = [v, w, v, w]) ?_ ?_
                      · refine To.ite (fun c => To.ret ⟨rfl, _, _, rfl⟩) (fun c => To.ite (fun c => To.ret ⟨rfl, _, _, rfl⟩) (fun c => To.ret ⟨rfl, _, _, rfl⟩))
                      rintro l ρ2 ⟨v2, w2, rfl⟩ eρ
                      simp only [List.cons_append, List.nil_append] at eρ
                      subst eρ
                      refine To.joinK (fun l => ∃ z1 z2 z3 z4 z5 z6 z7 z8, l = [z1, z2, z3, z4, z5, z6, z7, z8, .b false]) ?_ ?_
                      · (repeat' (first
                            | (refine To.callX rfl (fun ρ2 eρ => ⟨rfl, ?_⟩); simp (disch := omega) only [X.den, X.dens, X.denss, D.int_i, D.boo_b, D.str_s, D.rows_l, List.getD_cons_zero, List.getD_cons_succ, List.cons_append, List.nil_append, List.append_nil, List.length_cons, List.length_nil, decide_eq_true_eq, decide_eq_false_iff_not, Bool.not_eq_true', Bool.not_eq_false', Bool.and_eq_true, Bool.and_eq_false_iff, Bool.true_eq_false, Bool.false_eq_true, Bool.not_true, Bool.not_false, eq_self, D.len_l, wr64, not_true_eq_false, not_false_eq_true, ia, decide_true, Bool.not_true, beq_self_eq_true] at eρ; subst eρ)
                            | (refine To.subK (fun K hK => ?_))
                            | (refine To.need (by simp (disch := omega) only [X.den, X.dens, X.denss, D.int_i, D.boo_b, D.str_s, D.rows_l, List.getD_cons_zero, List.getD_cons_succ, List.cons_append, List.nil_append, List.append_nil, List.length_cons, List.length_nil, decide_eq_true_eq, decide_eq_false_iff_not, Bool.not_eq_true', Bool.not_eq_false', Bool.and_eq_true, Bool.and_eq_false_iff, Bool.true_eq_false, Bool.false_eq_true, Bool.not_true, Bool.not_false, eq_self, D.len_l, wr64, not_true_eq_false, not_false_eq_true, ia, decide_true, Bool.not_true, beq_self_eq_true] <;> omega) ?_)
                            | (refine To.ite (fun c => ?_) (fun c => ?_) <;> ((try simp (disch := omega) only [X.den, X.dens, X.denss, D.int_i, D.boo_b, D.str_s, D.rows_l, List.getD_cons_zero, List.getD_cons_succ, List.cons_append, List.nil_append, List.append_nil, List.length_cons, List.length_nil, decide_eq_true_eq, decide_eq_false_iff_not, Bool.not_eq_true', Bool.not_eq_false', Bool.and_eq_true, Bool.and_eq_false_iff, Bool.true_eq_false, Bool.false_eq_true, Bool.not_true, Bool.not_false, eq_self, D.len_l, wr64, not_true_eq_false, not_false_eq_true, ia, decide_true, Bool.not_true, beq_self_eq_true] at c) <;> (try (exfalso; omega))))
                            | (refine To.ret ⟨rfl, ?_⟩; (try simp (disch := omega) only [X.den, X.dens, X.denss, D.int_i, D.boo_b, D.str_s, D.rows_l, List.getD_cons_zero, List.getD_cons_succ, List.cons_append, List.nil_append, List.append_nil, List.length_cons, List.length_nil, decide_eq_true_eq, decide_eq_false_iff_not, Bool.not_eq_true', Bool.not_eq_false', Bool.and_eq_true, Bool.and_eq_false_iff, Bool.true_eq_false, Bool.false_eq_true, Bool.not_true, Bool.not_false, eq_self, D.len_l, wr64, not_true_eq_false, not_false_eq_true, ia, decide_true, Bool.not_true, beq_self_eq_true]); refine hK _ _ (by simp only [List.cons_append, List.nil_append]; first | done | rfl) ?_; clear hK; clear K)))
                        all_goals (refine To.ret ⟨rfl, ?_⟩; simp only [X.den, X.dens, X.denss, D.int_i, D.boo_b, D.str_s, D.rows_l, List.getD_cons_zero, List.getD_cons_succ, List.cons_append, List.nil_append, List.append_nil, List.length_cons, List.length_nil, decide_true, Bool.not_true, beq_self_eq_true]; exact ⟨_, _, _, _, _, _, _, _, rfl⟩)
                      rintro l ρ2 ⟨z1, z2, z3, z4, z5, z6, z7, z8, rfl⟩ eρ
                      simp only [List.cons_append, List.nil_append] at eρ
                      subst eρ
                      refine To.no rfl (To.ret (.inl ⟨rfl, m - 1, by omega, j + 1, ?_, by omega, by omega⟩))
                      simp only [X.den, X.dens, X.denss, D.int_i, D.boo_b, D.str_s, D.rows_l, List.getD_cons_zero, List.getD_cons_succ, List.cons_append, List.nil_append, List.append_nil, List.length_cons, List.length_nil]
                    · exact To.ret (.inr ⟨rfl, _, by simp only [X.den, X.dens, X.denss, D.int_i, D.boo_b, D.str_s, D.rows_l, List.getD_cons_zero, List.getD_cons_succ, List.cons_append, List.nil_append, List.append_nil, List.length_cons, List.length_nil]; rfl, rfl⟩)
                  · rintro l ρ2 ⟨rest, rfl, hr⟩ eρ
                    simp only [List.cons_append, List.nil_append] at eρ
                    subst eρ
                    exact ⟨by simp [hr], To.no rfl (To.ret ⟨rfl, u4, _, by simp only [X.den, X.dens, X.denss, D.int_i, D.boo_b, D.str_s, D.rows_l, List.getD_cons_zero, List.getD_cons_succ, List.cons_append, List.nil_append, List.append_nil, List.length_cons, List.length_nil]; rfl, g4⟩)⟩
                rintro l ρ2 ⟨u5, rest, rfl, g5⟩ eρ
                simp only [List.cons_append, List.nil_append] at eρ
                subst eρ
                refine To.yes rfl (To.ret (.inl ⟨rfl, m - 1, by omega, u5, k + 1, ?_, g5, by omega, by omega⟩))
                simp only [X.den, X.dens, X.denss, D.int_i, D.boo_b, D.str_s, D.rows_l, List.getD_cons_zero, List.getD_cons_succ, List.cons_append, List.nil_append, List.append_nil, List.length_cons, List.length_nil]
              · exact To.ret (.inr ⟨rfl, u1, _, by simp only [X.den, X.dens, X.denss, D.int_i, D.boo_b, D.str_s, D.rows_l, List.getD_cons_zero, List.getD_cons_succ, List.cons_append, List.nil_append, List.append_nil, List.length_cons, List.length_nil]; rfl, rfl, g1⟩)
            · rintro l ρ2 ⟨u6, rest, rfl, hr, g6⟩ eρ
              simp only [List.cons_append, List.nil_append] at eρ
              subst eρ
              exact ⟨by simp [hr], To.no rfl (To.ret ⟨rfl, u6, _, by simp only [X.den, X.dens, X.denss, D.int_i, D.boo_b, D.str_s, D.rows_l, List.getD_cons_zero, List.getD_cons_succ, List.cons_append, List.nil_append, List.append_nil, List.length_cons, List.length_nil]; rfl, g6⟩)⟩
          rintro l ρ2 ⟨t9, rest, rfl, h9⟩ eρ
          simp only [List.cons_append, List.nil_append] at eρ
          subst eρ
          refine To.no rfl (To.ret (.inl ⟨rfl, m - 1, by omega, t9, i + 1, ?_, h9, by omega, by omega⟩))
          simp only [X.den, X.dens, X.denss, D.int_i, D.boo_b, D.str_s, D.rows_l, List.getD_cons_zero, List.getD_cons_succ, List.cons_append, List.nil_append, List.append_nil, List.length_cons, List.length_nil]
        · exact To.ret (.inr ⟨rfl, _, _, rfl⟩)
      · rintro l ρ2 ⟨z1, z2, rfl⟩ eρ
        simp only [List.cons_append, List.nil_append] at eρ
        subst eρ
        refine ⟨rfl, To.no rfl (To.callK (l := [.b true]) hs rfl _ (by simp only [List.cons_append, List.nil_append]; first | done | rfl) (To.ret ?_))⟩
        simp only [X.den, X.dens, X.denss, D.int_i, D.boo_b, D.str_s, D.rows_l, List.getD_cons_zero, List.getD_cons_succ, List.cons_append, List.nil_append, List.append_nil, List.length_cons, List.length_nil]
    · cases h
def AngleExact_ps : List PK := aExact_K.ps
theorem AngleExact_all : Fx.LawOk Try.prog 3 AngleExact_ps :=
  law_all ae_ok rfl (by kernel_rfl) fun ds hw => by
    have hw' : WfR [.sl [.int .i64], .int .i64, .int .i64, .int .i64, .int .i64, .int .i64, .int .i64] ds := hw
    simp only [WfR, WfC] at hw'
    obtain ⟨d0, ds0, rfl, ⟨rows, rfl, _, _⟩, d1, ds1, rfl, _, d2, ds2, rfl, _, d3, ds3, rfl, _, d4, ds4, rfl, _, d5, ds5, rfl, _, d6, ds6, rfl, _, rfl⟩ := hw'
    rfl
end Go.Proofs.Ytdkamfkpmplaoaa
