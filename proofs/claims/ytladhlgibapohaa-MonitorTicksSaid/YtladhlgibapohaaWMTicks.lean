/- MonitorTicks. -/
import Derived.Test.YtladhlgibapohaaMonS
set_option linter.unusedVariables false
set_option linter.unusedSimpArgs false
namespace Go.Proofs.Ytladhlgibapohaa
open Go.RowKit Fx
def mkM : Models := Models.on srcN_K.f (srcN_T.run noM 0) (Models.on srcRef_K.f (srcRef_T.run srcM1 0) (Models.on srcFixes_K.f (srcFixes_T.run srcFM 30) (Models.on mRun_K.f (mRun_T.run mRunM 30) (Models.on mTick_K.f (mTick_T.run noM 0) (Models.on sane07_K.f (fun _ => some [.b true]) noM)))))
theorem src_take2 {rows : List (List D)} : SrcOk (rows.take (min (min (rows.length : Int) 9223372036854775807) 600).toNat) 0 := ⟨by omega, by omega, by rw [List.length_take]; omega⟩
theorem MonitorTicks_ok : ConOk Try.prog mTicks_K fun ds => match ds with | [.l _] => some [.b true] | _ => none :=
  con_of follows (M := mkM) (one_con (srcN_ok.to _) (one_con (srcRef_ok.to _) (one_con (srcFixes_ok.to _) (one_con (mRun_ok.to _) (one_con (mTick_ok.to _) (one_con (sane07_ok.to _) no_cons)))))) mTicks_t fun ds outs hl h => by
    split at h
    · rename_i rows
      injection h with h
      subst h
      refine ⟨fun i l h k => by simp [mTicks_K] at k, 0, ?_⟩
      unfold mTicks_T
      refine To.need (by simp only [X.den, X.dens, X.denss, D.int_i, D.boo_b, D.str_s, D.rows_l, List.getD_cons_zero, List.getD_cons_succ, List.cons_append, List.nil_append, List.append_nil, List.length_cons, List.length_nil, decide_eq_true_eq, decide_eq_false_iff_not, Bool.not_eq_true', Bool.not_eq_false', Bool.and_eq_true, Bool.and_eq_false_iff, Bool.true_eq_false, Bool.false_eq_true, Bool.not_true, Bool.not_false, eq_self, D.len_l]; omega) ?_
      refine To.viaK (by (try simp (disch := omega) only [X.den, X.dens, X.denss, D.int_i, D.boo_b, D.str_s, D.rows_l, List.getD_cons_zero, List.getD_cons_succ, List.cons_append, List.nil_append, List.append_nil, List.length_cons, List.length_nil, decide_eq_true_eq, decide_eq_false_iff_not, Bool.not_eq_true', Bool.not_eq_false', Bool.and_eq_true, Bool.and_eq_false_iff, Bool.true_eq_false, Bool.false_eq_true, Bool.not_true, Bool.not_false, eq_self, D.len_l, wr64, not_true_eq_false, not_false_eq_true]); exact srcRef_to src_take2) ?_
      rintro _ ρ2 ⟨c, sp, st, fr, t1, rfl, b1, b2, b3, b4, h1⟩ eρ
      refine ⟨rfl, ?_⟩
      simp only [List.cons_append, List.nil_append] at eρ
      subst eρ
      refine To.viaK (by (try simp (disch := omega) only [X.den, X.dens, X.denss, D.int_i, D.boo_b, D.str_s, D.rows_l, List.getD_cons_zero, List.getD_cons_succ, List.cons_append, List.nil_append, List.append_nil, List.length_cons, List.length_nil, decide_eq_true_eq, decide_eq_false_iff_not, Bool.not_eq_true', Bool.not_eq_false', Bool.and_eq_true, Bool.and_eq_false_iff, Bool.true_eq_false, Bool.false_eq_true, Bool.not_true, Bool.not_false, eq_self, D.len_l, wr64, not_true_eq_false, not_false_eq_true]); exact srcFixes_to h1 (by omega) (by omega)) ?_
      rintro _ ρ2 ⟨fs, t2, rfl, n1, hf, h2⟩ eρ
      refine ⟨rfl, ?_⟩
      simp only [List.cons_append, List.nil_append] at eρ
      subst eρ
      have ro : RefOk c sp st fr := by unfold RefOk; omega
      refine To.viaK (by (try simp (disch := omega) only [X.den, X.dens, X.denss, D.int_i, D.boo_b, D.str_s, D.rows_l, List.getD_cons_zero, List.getD_cons_succ, List.cons_append, List.nil_append, List.append_nil, List.length_cons, List.length_nil, decide_eq_true_eq, decide_eq_false_iff_not, Bool.not_eq_true', Bool.not_eq_false', Bool.and_eq_true, Bool.and_eq_false_iff, Bool.true_eq_false, Bool.false_eq_true, Bool.not_true, Bool.not_false, eq_self, D.len_l, wr64, not_true_eq_false, not_false_eq_true]); exact mRun_to ro hf (by omega)) ?_
      rintro _ ρ2 ⟨a0, a1, a2, a3, a4, a5, a6, a7, s, a9, a10, e, rfl, ht, he⟩ eρ
      refine ⟨rfl, ?_⟩
      simp only [List.cons_append, List.nil_append] at eρ
      subst eρ
      refine To.joinK (fun l => l = [.b false]) ?_ ?_
      · rcases he with rfl | rfl
        · exact To.yes rfl (To.ret ⟨rfl, rfl⟩)
        · exact To.no rfl (To.ret ⟨rfl, rfl⟩)
      rintro l ρ2 rfl eρ
      simp only [List.cons_append, List.nil_append] at eρ
      subst eρ
      refine To.no rfl ?_
      refine To.viaK (by (try simp (disch := omega) only [X.den, X.dens, X.denss, D.int_i, D.boo_b, D.str_s, D.rows_l, List.getD_cons_zero, List.getD_cons_succ, List.cons_append, List.nil_append, List.append_nil, List.length_cons, List.length_nil, decide_eq_true_eq, decide_eq_false_iff_not, Bool.not_eq_true', Bool.not_eq_false', Bool.and_eq_true, Bool.and_eq_false_iff, Bool.true_eq_false, Bool.false_eq_true, Bool.not_true, Bool.not_false, eq_self, D.len_l, wr64, not_true_eq_false, not_false_eq_true]); exact srcN_to h2 (by omega) (by omega)) ?_
      rintro _ ρ2 ⟨r, t3, rfl, p3, q3, h3⟩ eρ
      refine ⟨rfl, ?_⟩
      simp only [List.cons_append, List.nil_append] at eρ
      subst eρ
      rcases ht with ⟨rfl, rfl, rfl, rfl, rfl, rfl, rfl, rfl, rfl, rfl, rfl⟩ | ⟨rfl, f1, f2, b5, b6, b7⟩
      · refine To.viaK (by (try simp (disch := omega) only [X.den, X.dens, X.denss, D.int_i, D.boo_b, D.str_s, D.rows_l, List.getD_cons_zero, List.getD_cons_succ, List.cons_append, List.nil_append, List.append_nil, List.length_cons, List.length_nil, decide_eq_true_eq, decide_eq_false_iff_not, Bool.not_eq_true', Bool.not_eq_false', Bool.and_eq_true, Bool.and_eq_false_iff, Bool.true_eq_false, Bool.false_eq_true, Bool.not_true, Bool.not_false, eq_self, D.len_l, wr64, not_true_eq_false, not_false_eq_true]); exact tick_unseen ro (t := 0 + r) (by omega) (by omega)) ?_
        rintro _ ρ2 rfl eρ
        refine ⟨rfl, ?_⟩
        simp only [List.cons_append, List.nil_append] at eρ
        subst eρ
        refine To.viaK (by (try simp (disch := omega) only [X.den, X.dens, X.denss, D.int_i, D.boo_b, D.str_s, D.rows_l, List.getD_cons_zero, List.getD_cons_succ, List.cons_append, List.nil_append, List.append_nil, List.length_cons, List.length_nil, decide_eq_true_eq, decide_eq_false_iff_not, Bool.not_eq_true', Bool.not_eq_false', Bool.and_eq_true, Bool.and_eq_false_iff, Bool.true_eq_false, Bool.false_eq_true, Bool.not_true, Bool.not_false, eq_self, D.len_l, wr64, not_true_eq_false, not_false_eq_true]); exact srcN_to h3 (by omega) (by omega)) ?_
        rintro _ ρ2 ⟨r2, t4, rfl, p4, q4, h4⟩ eρ
        refine ⟨rfl, ?_⟩
        simp only [List.cons_append, List.nil_append] at eρ
        subst eρ
        refine To.viaK (by (try simp (disch := omega) only [X.den, X.dens, X.denss, D.int_i, D.boo_b, D.str_s, D.rows_l, List.getD_cons_zero, List.getD_cons_succ, List.cons_append, List.nil_append, List.append_nil, List.length_cons, List.length_nil, decide_eq_true_eq, decide_eq_false_iff_not, Bool.not_eq_true', Bool.not_eq_false', Bool.and_eq_true, Bool.and_eq_false_iff, Bool.true_eq_false, Bool.false_eq_true, Bool.not_true, Bool.not_false, eq_self, D.len_l, wr64, not_true_eq_false, not_false_eq_true]); exact tick_unseen ro (t := 0 + r + r2) (by omega) (by omega)) ?_
        rintro _ ρ2 rfl eρ
        refine ⟨rfl, ?_⟩
        simp only [List.cons_append, List.nil_append] at eρ
        subst eρ
        refine To.viaK (by (try simp (disch := omega) only [X.den, X.dens, X.denss, D.int_i, D.boo_b, D.str_s, D.rows_l, List.getD_cons_zero, List.getD_cons_succ, List.cons_append, List.nil_append, List.append_nil, List.length_cons, List.length_nil, decide_eq_true_eq, decide_eq_false_iff_not, Bool.not_eq_true', Bool.not_eq_false', Bool.and_eq_true, Bool.and_eq_false_iff, Bool.true_eq_false, Bool.false_eq_true, Bool.not_true, Bool.not_false, eq_self, D.len_l, wr64, not_true_eq_false, not_false_eq_true]); exact tick_unseen ro (t := 0 + r) (by omega) (by omega)) ?_
        rintro _ ρ2 rfl eρ
        refine ⟨rfl, ?_⟩
        simp only [List.cons_append, List.nil_append] at eρ
        subst eρ
        refine To.subK (fun K hK => ?_)
        refine To.yes rfl (To.yes rfl (To.yes rfl (To.ret ⟨rfl, hK _ _ (by simp only [X.den, X.dens, X.denss, D.int_i, D.boo_b, D.str_s, D.rows_l, List.getD_cons_zero, List.getD_cons_succ, List.cons_append, List.nil_append, List.append_nil, List.length_cons, List.length_nil]; rfl) ?_⟩)))
        clear hK; clear K
        refine To.no (by simp only [X.den, X.dens, X.denss, D.int_i, D.boo_b, D.str_s, D.rows_l, List.getD_cons_zero, List.getD_cons_succ, List.cons_append, List.nil_append, List.append_nil, List.length_cons, List.length_nil]; simp) ?_
        refine To.subK (fun K hK => ?_)
        refine To.yes (by simp only [X.den, X.dens, X.denss, D.int_i, D.boo_b, D.str_s, D.rows_l, List.getD_cons_zero, List.getD_cons_succ, List.cons_append, List.nil_append, List.append_nil, List.length_cons, List.length_nil]; simp) (To.yes rfl (To.no rfl (To.ret ⟨rfl, hK _ _ (by simp only [X.den, X.dens, X.denss, D.int_i, D.boo_b, D.str_s, D.rows_l, List.getD_cons_zero, List.getD_cons_succ, List.cons_append, List.nil_append, List.append_nil, List.length_cons, List.length_nil]; rfl) ?_⟩)))
        clear hK; clear K
        refine To.no rfl ?_
        refine To.subK (fun K hK => ?_)
        refine To.yes (by simp only [X.den, X.dens, X.denss, D.int_i, D.boo_b, D.str_s, D.rows_l, List.getD_cons_zero, List.getD_cons_succ, List.cons_append, List.nil_append, List.append_nil, List.length_cons, List.length_nil]; simp) ?_
        refine To.callK (l := [.b true]) rfl rfl _ (by simp only [List.cons_append, List.nil_append]; first | done | rfl) ?_
        refine To.ret ⟨rfl, hK _ _ (by simp only [X.den, X.dens, X.denss, D.int_i, D.boo_b, D.str_s, D.rows_l, List.getD_cons_zero, List.getD_cons_succ, List.cons_append, List.nil_append, List.append_nil, List.length_cons, List.length_nil]; rfl) ?_⟩
        refine To.ret ?_
        simp only [X.den, X.dens, X.denss, D.int_i, D.boo_b, D.str_s, D.rows_l, List.getD_cons_zero, List.getD_cons_succ, List.cons_append, List.nil_append, List.append_nil, List.length_cons, List.length_nil]
      · have f1' := f1
        unfold FixOk at f1'
        refine To.viaK (by (try simp (disch := omega) only [X.den, X.dens, X.denss, D.int_i, D.boo_b, D.str_s, D.rows_l, List.getD_cons_zero, List.getD_cons_succ, List.cons_append, List.nil_append, List.append_nil, List.length_cons, List.length_nil, decide_eq_true_eq, decide_eq_false_iff_not, Bool.not_eq_true', Bool.not_eq_false', Bool.and_eq_true, Bool.and_eq_false_iff, Bool.true_eq_false, Bool.false_eq_true, Bool.not_true, Bool.not_false, eq_self, D.len_l, wr64, not_true_eq_false, not_false_eq_true]); exact tick_seen ro f1 f2 (t := a0 + r) (by omega) (by omega) (by omega)) ?_
        rintro _ ρ2 ⟨s1, rfl, hs1⟩ eρ
        refine ⟨rfl, ?_⟩
        simp only [List.cons_append, List.nil_append] at eρ
        subst eρ
        refine To.viaK (by (try simp (disch := omega) only [X.den, X.dens, X.denss, D.int_i, D.boo_b, D.str_s, D.rows_l, List.getD_cons_zero, List.getD_cons_succ, List.cons_append, List.nil_append, List.append_nil, List.length_cons, List.length_nil, decide_eq_true_eq, decide_eq_false_iff_not, Bool.not_eq_true', Bool.not_eq_false', Bool.and_eq_true, Bool.and_eq_false_iff, Bool.true_eq_false, Bool.false_eq_true, Bool.not_true, Bool.not_false, eq_self, D.len_l, wr64, not_true_eq_false, not_false_eq_true]); exact srcN_to h3 (by omega) (by omega)) ?_
        rintro _ ρ2 ⟨r2, t4, rfl, p4, q4, h4⟩ eρ
        refine ⟨rfl, ?_⟩
        simp only [List.cons_append, List.nil_append] at eρ
        subst eρ
        refine To.viaK (by (try simp (disch := omega) only [X.den, X.dens, X.denss, D.int_i, D.boo_b, D.str_s, D.rows_l, List.getD_cons_zero, List.getD_cons_succ, List.cons_append, List.nil_append, List.append_nil, List.length_cons, List.length_nil, decide_eq_true_eq, decide_eq_false_iff_not, Bool.not_eq_true', Bool.not_eq_false', Bool.and_eq_true, Bool.and_eq_false_iff, Bool.true_eq_false, Bool.false_eq_true, Bool.not_true, Bool.not_false, eq_self, D.len_l, wr64, not_true_eq_false, not_false_eq_true]); exact tick_seen ro f1 f2 (t := a0 + r + r2) (by omega) (by omega) (by omega)) ?_
        rintro _ ρ2 ⟨s2, rfl, hs2⟩ eρ
        refine ⟨rfl, ?_⟩
        simp only [List.cons_append, List.nil_append] at eρ
        subst eρ
        refine To.viaK (by (try simp (disch := omega) only [X.den, X.dens, X.denss, D.int_i, D.boo_b, D.str_s, D.rows_l, List.getD_cons_zero, List.getD_cons_succ, List.cons_append, List.nil_append, List.append_nil, List.length_cons, List.length_nil, decide_eq_true_eq, decide_eq_false_iff_not, Bool.not_eq_true', Bool.not_eq_false', Bool.and_eq_true, Bool.and_eq_false_iff, Bool.true_eq_false, Bool.false_eq_true, Bool.not_true, Bool.not_false, eq_self, D.len_l, wr64, not_true_eq_false, not_false_eq_true]); exact tick_unseen ro (t := a0 + r) (by omega) (by omega)) ?_
        rintro _ ρ2 rfl eρ
        refine ⟨rfl, ?_⟩
        simp only [List.cons_append, List.nil_append] at eρ
        subst eρ
        refine To.subK (fun K hK => ?_)
        refine To.yes rfl (To.yes rfl (To.yes rfl (To.ret ⟨rfl, hK _ _ (by simp only [X.den, X.dens, X.denss, D.int_i, D.boo_b, D.str_s, D.rows_l, List.getD_cons_zero, List.getD_cons_succ, List.cons_append, List.nil_append, List.append_nil, List.length_cons, List.length_nil]; rfl) ?_⟩)))
        clear hK; clear K
        refine To.no (by simp only [X.den, X.dens, X.denss, D.int_i, D.boo_b, D.str_s, D.rows_l, List.getD_cons_zero, List.getD_cons_succ, List.cons_append, List.nil_append, List.append_nil, List.length_cons, List.length_nil]; simp) ?_
        refine To.joinK (fun l => l = [.b false]) ?_ ?_
        · refine To.yes (by simp only [X.den, X.dens, X.denss, D.int_i, D.boo_b, D.str_s, D.rows_l, List.getD_cons_zero, List.getD_cons_succ, List.cons_append, List.nil_append, List.append_nil, List.length_cons, List.length_nil]; simp) ?_
          refine To.ite (fun cc => ?_) (fun cc => ?_) <;> simp only [X.den, X.dens, X.denss, D.int_i, D.boo_b, D.str_s, D.rows_l, List.getD_cons_zero, List.getD_cons_succ, List.cons_append, List.nil_append, List.append_nil, List.length_cons, List.length_nil, decide_eq_true_eq, decide_eq_false_iff_not, Bool.not_eq_true', Bool.not_eq_false', Bool.and_eq_true, Bool.and_eq_false_iff, Bool.true_eq_false, Bool.false_eq_true, Bool.not_true, Bool.not_false, eq_self] at cc
          · refine To.no (by simp only [X.den, X.dens, X.denss, D.int_i, D.boo_b, D.str_s, D.rows_l, List.getD_cons_zero, List.getD_cons_succ, List.cons_append, List.nil_append, List.append_nil, List.length_cons, List.length_nil, decide_eq_true_eq, decide_eq_false_iff_not, Bool.not_eq_true', Bool.not_eq_false', Bool.and_eq_true, Bool.and_eq_false_iff, Bool.true_eq_false, Bool.false_eq_true, Bool.not_true, Bool.not_false, eq_self]; omega) (To.ret ⟨rfl, rfl⟩)
          · refine To.yes (by simp only [X.den, X.dens, X.denss, D.int_i, D.boo_b, D.str_s, D.rows_l, List.getD_cons_zero, List.getD_cons_succ, List.cons_append, List.nil_append, List.append_nil, List.length_cons, List.length_nil, decide_eq_true_eq, decide_eq_false_iff_not, Bool.not_eq_true', Bool.not_eq_false', Bool.and_eq_true, Bool.and_eq_false_iff, Bool.true_eq_false, Bool.false_eq_true, Bool.not_true, Bool.not_false, eq_self]; omega) (To.ret ⟨rfl, ?_⟩)
            have : s2 = s1 := by omega
            subst this
            simp only [X.den, X.dens, X.denss, D.int_i, D.boo_b, D.str_s, D.rows_l, List.getD_cons_zero, List.getD_cons_succ, List.cons_append, List.nil_append, List.append_nil, List.length_cons, List.length_nil]
            simp
        rintro l ρ2 rfl eρ
        simp only [List.cons_append, List.nil_append] at eρ
        subst eρ
        refine To.no rfl ?_
        refine To.subK (fun K hK => ?_)
        refine To.yes (by simp only [X.den, X.dens, X.denss, D.int_i, D.boo_b, D.str_s, D.rows_l, List.getD_cons_zero, List.getD_cons_succ, List.cons_append, List.nil_append, List.append_nil, List.length_cons, List.length_nil]; simp) ?_
        refine To.callK (l := [.b true]) rfl rfl _ (by simp only [List.cons_append, List.nil_append]; first | done | rfl) ?_
        refine To.ret ⟨rfl, hK _ _ (by simp only [X.den, X.dens, X.denss, D.int_i, D.boo_b, D.str_s, D.rows_l, List.getD_cons_zero, List.getD_cons_succ, List.cons_append, List.nil_append, List.append_nil, List.length_cons, List.length_nil]; rfl) ?_⟩
        refine To.ret ?_
        simp only [X.den, X.dens, X.denss, D.int_i, D.boo_b, D.str_s, D.rows_l, List.getD_cons_zero, List.getD_cons_succ, List.cons_append, List.nil_append, List.append_nil, List.length_cons, List.length_nil]
    · cases h
theorem MonitorTicks_walk {w : World} (v : Value) (zs : List Int) (h : IntsIn w w.heap.size v .i64 zs) (hz : ∀ z ∈ zs, (Lit.int .i64 z).wf = true) : Calls Try.prog 6 #[v] w fun e w' => e = .returned (.bool true) ∧ Below w.heap.size w w' :=
  con_law MonitorTicks_ok rfl (fun G hG => args_ints h hG (by trivial)) (by simp [mTicks_K]) (ds := [numD zs]) rfl
end Go.Proofs.Ytladhlgibapohaa
