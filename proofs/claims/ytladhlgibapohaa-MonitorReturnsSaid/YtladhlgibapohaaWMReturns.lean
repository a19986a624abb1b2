/- MonitorReturns. -/
import Derived.Test.YtladhlgibapohaaMonT
set_option linter.unusedVariables false
set_option linter.unusedSimpArgs false
namespace Go.Proofs.Ytladhlgibapohaa
open Go.RowKit Fx
def mrM : Models := Models.on srcN_K.f (srcN_T.run noM 0) (Models.on sane07_K.f (fun _ => some [.b true]) (Models.on mStep_K.f (mStep_T.run noM 0) noM))
theorem src_take {rows : List (List D)} : SrcOk (rows.take (min (min (rows.length : Int) 9223372036854775807) 600).toNat) 0 := ⟨by omega, by omega, by rw [List.length_take]; omega⟩
theorem MonitorReturns_ok : ConOk Try.prog mReturns_K fun ds => match ds with | [.l _, .i f] => if 0 ≤ f ∧ f ≤ 65535 then some [.b true] else none | _ => none :=
  con_of follows (M := mrM) (one_con (srcN_ok.to _) (one_con (sane07_ok.to _) (one_con (mStep_ok.to _) no_cons))) mReturns_t fun ds outs hl h => by
    split at h
    · rename_i rows far
      split at h
      · rename_i hb
        injection h with h
        subst h
        refine ⟨fun i l h k => ?_, 0, ?_⟩
        · match i, k with
          | 0, k => simp [mReturns_K] at k
          | 1, k => simp [mReturns_K] at k; obtain ⟨rfl, rfl⟩ := k; simp [D.int]; omega
          | i + 2, k => simp [mReturns_K] at k
        unfold mReturns_T
        refine To.need (by simp only [X.den, X.dens, X.denss, D.int_i, D.boo_b, D.str_s, D.rows_l, List.getD_cons_zero, List.getD_cons_succ, List.cons_append, List.nil_append, List.append_nil, List.length_cons, List.length_nil, decide_eq_true_eq, decide_eq_false_iff_not, Bool.not_eq_true', Bool.not_eq_false', Bool.and_eq_true, Bool.and_eq_false_iff, Bool.true_eq_false, Bool.false_eq_true, Bool.not_true, Bool.not_false, eq_self, D.len_l]; omega) ?_
        refine To.viaK (by (try simp (disch := omega) only [X.den, X.dens, X.denss, D.int_i, D.boo_b, D.str_s, D.rows_l, List.getD_cons_zero, List.getD_cons_succ, List.cons_append, List.nil_append, List.append_nil, List.length_cons, List.length_nil, decide_eq_true_eq, decide_eq_false_iff_not, Bool.not_eq_true', Bool.not_eq_false', Bool.and_eq_true, Bool.and_eq_false_iff, Bool.true_eq_false, Bool.false_eq_true, Bool.not_true, Bool.not_false, eq_self, D.len_l, wr64, not_true_eq_false, not_false_eq_true]); exact srcN_to src_take (by omega) (by omega)) ?_
        rintro _ ρ2 ⟨r, t1, rfl, p1, q1, h1⟩ eρ
        refine ⟨rfl, ?_⟩
        simp only [List.cons_append, List.nil_append] at eρ
        subst eρ
        obtain ⟨m, hm, m0, m1⟩ : ∃ m, far.tmod 5000 = m ∧ 0 ≤ m ∧ m < 5000 := ⟨_, rfl, Int.tmod_nonneg _ hb.1, Int.tmod_lt_of_pos _ (by decide)⟩
        obtain ⟨q, hq, hq1, hq2, hq3, hq4⟩ : ∃ q, (21 + m - 20 + (1 + r) - 1).tdiv (1 + r) = q ∧ (1 + r) * (q - 1) ≤ m ∧ m + 1 ≤ (1 + r) * q ∧ 1 ≤ q ∧ q ≤ 5001 := by
          have e := Int.mul_ediv_add_emod (21 + m - 20 + (1 + r) - 1) (1 + r)
          have e0 := Int.emod_nonneg (21 + m - 20 + (1 + r) - 1) (show (1 + r) ≠ 0 by omega)
          have e1 := Int.emod_lt_of_pos (21 + m - 20 + (1 + r) - 1) (show 0 < 1 + r by omega)
          rw [Int.tdiv_eq_ediv_of_nonneg (by omega)]
          generalize (21 + m - 20 + (1 + r) - 1) / (1 + r) = q at *
          have a : (1 + r) * (q - 1) = (1 + r) * q - (1 + r) := by rw [Int.mul_sub, Int.mul_one]
          refine ⟨q, rfl, by omega, by omega, ?_, ?_⟩
          · apply Int.not_lt.1
            intro k
            have := Int.mul_le_mul_of_nonneg_left (show q ≤ 0 by omega) (show 0 ≤ 1 + r by omega)
            omega
          · apply Int.not_lt.1
            intro k
            have := Int.mul_le_mul_of_nonneg_left (show 5001 ≤ q - 1 by omega) (show 0 ≤ 1 + r by omega)
            omega
        have ro : RefOk 0 (1 + r) 100 0 := by unfold RefOk; omega
        have f0 : FixOk 1 0 0 10 := by unfold FixOk; omega
        have fa : FixOk q (21 + m) 0 10 := by unfold FixOk; omega
        have fb : FixOk (q + 1) (21 + m) 0 10 := by unfold FixOk; omega
        have fc : FixOk (q + 1) 3 0 10 := by unfold FixOk; omega
        have key : (1 + r) * (q + 1 - 1) = (1 + r) * q := by rw [Int.add_sub_cancel]
        refine To.joinK (fun l => l = [.i 1, .i 0, .i 0, .i 10, .i 1, .i 0, .i 0, .i 10, .b true, .i 1, .i 1, .i 1, .i 0, .i 0, .i 10, .i 1, .i 0, .i 0, .i 10, .b true, .i 1, .i 1, .i 1, .i 0, .i 0, .i 10, .i 1, .i 0, .i 0, .i 10, .b true, .i 1, .i 1, .i 1, .i 0, .i 0, .i 10, .i 1, .i 0, .i 0, .i 10, .b true, .i 1, .i 1, .i 0]) ?_ ?_
        · refine To.viaK (by (try simp (disch := omega) only [X.den, X.dens, X.denss, D.int_i, D.boo_b, D.str_s, D.rows_l, List.getD_cons_zero, List.getD_cons_succ, List.cons_append, List.nil_append, List.append_nil, List.length_cons, List.length_nil, decide_eq_true_eq, decide_eq_false_iff_not, Bool.not_eq_true', Bool.not_eq_false', Bool.and_eq_true, Bool.and_eq_false_iff, Bool.true_eq_false, Bool.false_eq_true, Bool.not_true, Bool.not_false, eq_self, D.len_l, wr64, not_true_eq_false, not_false_eq_true]); exact step_first ro f0) ?_
          rintro _ ρ2 rfl eρ
          refine ⟨rfl, ?_⟩
          simp only [List.cons_append, List.nil_append] at eρ
          subst eρ
          refine To.yes rfl (To.ret ⟨rfl, ?_⟩)
          simp only [X.den, X.dens, X.denss, D.int_i, D.boo_b, D.str_s, D.rows_l, List.getD_cons_zero, List.getD_cons_succ, List.cons_append, List.nil_append, List.append_nil, List.length_cons, List.length_nil]
        rintro l ρ2 rfl eρ
        simp only [List.cons_append, List.nil_append] at eρ
        subst eρ
        refine To.need (by simp (disch := omega) only [X.den, X.dens, X.denss, D.int_i, D.boo_b, D.str_s, D.rows_l, List.getD_cons_zero, List.getD_cons_succ, List.cons_append, List.nil_append, List.append_nil, List.length_cons, List.length_nil, decide_eq_true_eq, decide_eq_false_iff_not, Bool.not_eq_true', Bool.not_eq_false', Bool.and_eq_true, Bool.and_eq_false_iff, Bool.true_eq_false, Bool.false_eq_true, Bool.not_true, Bool.not_false, eq_self, wr64]; omega) ?_
        by_cases c : q ≤ 1
        · refine To.viaK (by (try simp (disch := omega) only [X.den, X.dens, X.denss, D.int_i, D.boo_b, D.str_s, D.rows_l, List.getD_cons_zero, List.getD_cons_succ, List.cons_append, List.nil_append, List.append_nil, List.length_cons, List.length_nil, decide_eq_true_eq, decide_eq_false_iff_not, Bool.not_eq_true', Bool.not_eq_false', Bool.and_eq_true, Bool.and_eq_false_iff, Bool.true_eq_false, Bool.false_eq_true, Bool.not_true, Bool.not_false, eq_self, D.len_l, wr64, not_true_eq_false, not_false_eq_true, hm, hq]); exact step_time ro fa f0 f0 (by omega) c) ?_
          rintro _ ρ2 rfl eρ
          refine ⟨rfl, ?_⟩
          simp only [List.cons_append, List.nil_append] at eρ
          subst eρ
          refine To.viaK (by (try simp (disch := omega) only [X.den, X.dens, X.denss, D.int_i, D.boo_b, D.str_s, D.rows_l, List.getD_cons_zero, List.getD_cons_succ, List.cons_append, List.nil_append, List.append_nil, List.length_cons, List.length_nil, decide_eq_true_eq, decide_eq_false_iff_not, Bool.not_eq_true', Bool.not_eq_false', Bool.and_eq_true, Bool.and_eq_false_iff, Bool.true_eq_false, Bool.false_eq_true, Bool.not_true, Bool.not_false, eq_self, D.len_l, wr64, not_true_eq_false, not_false_eq_true, hm, hq]); exact step_next ro fb f0 f0 (by omega) (by omega)) ?_
          rintro _ ρ2 ⟨s1, s2, g0, g1, g2, g3, rfl, hs, hg⟩ eρ
          refine ⟨rfl, ?_⟩
          simp only [List.cons_append, List.nil_append] at eρ
          subst eρ
          refine To.yes rfl ?_
          refine To.subK (fun K hK => ?_)
          refine To.no (by simp (disch := omega) only [X.den, X.dens, X.denss, D.int_i, D.boo_b, D.str_s, D.rows_l, List.getD_cons_zero, List.getD_cons_succ, List.cons_append, List.nil_append, List.append_nil, List.length_cons, List.length_nil, decide_eq_true_eq, decide_eq_false_iff_not, Bool.not_eq_true', Bool.not_eq_false', Bool.and_eq_true, Bool.and_eq_false_iff, Bool.true_eq_false, Bool.false_eq_true, Bool.not_true, Bool.not_false, eq_self, wr64, hm, hq]; omega) ?_
          refine To.callK (l := [.b true]) rfl rfl _ (by simp only [List.cons_append, List.nil_append]; first | done | rfl) ?_
          refine To.ret ⟨rfl, hK _ _ (by simp only [List.cons_append, List.nil_append]; first | done | rfl) ?_⟩
          refine To.ret ?_
          simp only [X.den, X.dens, X.denss, D.int_i, D.boo_b, D.str_s, D.rows_l, List.getD_cons_zero, List.getD_cons_succ, List.cons_append, List.nil_append, List.append_nil, List.length_cons, List.length_nil]
        · refine To.viaK (by (try simp (disch := omega) only [X.den, X.dens, X.denss, D.int_i, D.boo_b, D.str_s, D.rows_l, List.getD_cons_zero, List.getD_cons_succ, List.cons_append, List.nil_append, List.append_nil, List.length_cons, List.length_nil, decide_eq_true_eq, decide_eq_false_iff_not, Bool.not_eq_true', Bool.not_eq_false', Bool.and_eq_true, Bool.and_eq_false_iff, Bool.true_eq_false, Bool.false_eq_true, Bool.not_true, Bool.not_false, eq_self, D.len_l, wr64, not_true_eq_false, not_false_eq_true, hm, hq]); exact step_next ro fa f0 f0 (by omega) (by omega)) ?_
          rintro _ ρ2 ⟨s1, s2, g0, g1, g2, g3, rfl, hs, hg⟩ eρ
          refine ⟨rfl, ?_⟩
          simp only [List.cons_append, List.nil_append] at eρ
          subst eρ
          refine To.viaK (by (try simp (disch := omega) only [X.den, X.dens, X.denss, D.int_i, D.boo_b, D.str_s, D.rows_l, List.getD_cons_zero, List.getD_cons_succ, List.cons_append, List.nil_append, List.append_nil, List.length_cons, List.length_nil, decide_eq_true_eq, decide_eq_false_iff_not, Bool.not_eq_true', Bool.not_eq_false', Bool.and_eq_true, Bool.and_eq_false_iff, Bool.true_eq_false, Bool.false_eq_true, Bool.not_true, Bool.not_false, eq_self, D.len_l, wr64, not_true_eq_false, not_false_eq_true, hm, hq]); exact step_next ro fb f0 f0 (by omega) (by omega)) ?_
          rintro _ ρ2 ⟨s3, s4, g4, g5, g6, g7, rfl, hs2, hg2⟩ eρ
          refine ⟨rfl, ?_⟩
          simp only [List.cons_append, List.nil_append] at eρ
          subst eρ
          have e1 : s2 = 4 ∧ g0 = 1 ∧ g1 = 0 ∧ g2 = 0 ∧ g3 = 10 := by omega
          obtain ⟨rfl, rfl, rfl, rfl, rfl⟩ := e1
          have e2 : s4 = 1 := by omega
          subst e2
          refine To.no rfl ?_
          refine To.viaK (by (try simp (disch := omega) only [X.den, X.dens, X.denss, D.int_i, D.boo_b, D.str_s, D.rows_l, List.getD_cons_zero, List.getD_cons_succ, List.cons_append, List.nil_append, List.append_nil, List.length_cons, List.length_nil, decide_eq_true_eq, decide_eq_false_iff_not, Bool.not_eq_true', Bool.not_eq_false', Bool.and_eq_true, Bool.and_eq_false_iff, Bool.true_eq_false, Bool.false_eq_true, Bool.not_true, Bool.not_false, eq_self, D.len_l, wr64, not_true_eq_false, not_false_eq_true, hm, hq]); exact step_next ro fc fa f0 (by omega) (by omega)) ?_
          rintro _ ρ2 ⟨s5, s6, g8, g9, ga, gb, rfl, hs3, hg3⟩ eρ
          refine ⟨rfl, ?_⟩
          simp only [List.cons_append, List.nil_append] at eρ
          subst eρ
          have e3 : s6 = 1 := by omega
          subst e3
          refine To.subK (fun K hK => ?_)
          refine To.yes rfl (To.yes rfl (To.yes rfl (To.yes rfl (To.yes (by simp only [X.den, X.dens, X.denss, D.int_i, D.boo_b, D.str_s, D.rows_l, List.getD_cons_zero, List.getD_cons_succ, List.cons_append, List.nil_append, List.append_nil, List.length_cons, List.length_nil, decide_eq_true_eq, decide_eq_false_iff_not, Bool.not_eq_true', Bool.not_eq_false', Bool.and_eq_true, Bool.and_eq_false_iff, Bool.true_eq_false, Bool.false_eq_true, Bool.not_true, Bool.not_false, eq_self]; simp) (To.yes rfl (To.yes rfl ?_))))))
          refine To.callK (l := [.b true]) rfl rfl _ (by simp only [List.cons_append, List.nil_append]; first | done | rfl) ?_
          refine To.ret ⟨rfl, hK _ _ (by simp only [List.cons_append, List.nil_append]; first | done | rfl) ?_⟩
          refine To.ret ?_
          simp only [X.den, X.dens, X.denss, D.int_i, D.boo_b, D.str_s, D.rows_l, List.getD_cons_zero, List.getD_cons_succ, List.cons_append, List.nil_append, List.append_nil, List.length_cons, List.length_nil]
      · cases h
    · cases h
theorem MonitorReturns_walk {w : World} (v : Value) (zs : List Int) (h : IntsIn w w.heap.size v .i64 zs) (hz : ∀ z ∈ zs, (Lit.int .i64 z).wf = true) (a : Int) (ha : (Lit.int .u16 a).wf = true) : Calls Try.prog 3 #[v, .int .u16 a] w fun e w' => e = .returned (.bool true) ∧ Below w.heap.size w w' :=
  con_law MonitorReturns_ok rfl (fun G hG => args_ints h hG (args_int (by trivial))) (by simp [mReturns_K]) (ds := [numD zs, .i a]) (by
    have := bounds_u16 ha
    exact if_pos (by omega))
end Go.Proofs.Ytladhlgibapohaa
