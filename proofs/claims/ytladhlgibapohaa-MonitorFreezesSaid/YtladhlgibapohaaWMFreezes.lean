/- MonitorFreezes. -/
import Derived.Test.YtladhlgibapohaaMonS
set_option linter.unusedVariables false
set_option linter.unusedSimpArgs false
namespace Go.Proofs.Ytladhlgibapohaa
open Go.RowKit Fx
def mfM : Models := Models.on srcN_K.f (srcN_T.run noM 0) (Models.on mStep_K.f (mStep_T.run noM 0) (Models.on mTick_K.f (mTick_T.run noM 0) (Models.on sane07_K.f (fun _ => some [.b true]) noM)))
theorem src_take4 {rows : List (List D)} : SrcOk (rows.take (min (min (rows.length : Int) 9223372036854775807) 600).toNat) 0 := ⟨by omega, by omega, by rw [List.length_take]; omega⟩
theorem MonitorFreezes_ok : ConOk Try.prog mFreezes_K fun ds => match ds with | [.l _, .i f] => if 0 ≤ f ∧ f ≤ 255 then some [.b true] else none | _ => none :=
  con_of follows (M := mfM) (one_con (srcN_ok.to _) (one_con (mStep_ok.to _) (one_con (mTick_ok.to _) (one_con (sane07_ok.to _) no_cons)))) mFreezes_t fun ds outs hl h => by
    split at h
    · rename_i rows far
      split at h
      · rename_i hb
        injection h with h
        subst h
        refine ⟨fun i l h k => ?_, 20, ?_⟩
        · match i, k with
          | 0, k => simp [mFreezes_K] at k
          | 1, k => simp [mFreezes_K] at k; obtain ⟨rfl, rfl⟩ := k; simp [D.int]; omega
          | i + 2, k => simp [mFreezes_K] at k
        unfold mFreezes_T
        refine To.need (by simp only [X.den, X.dens, X.denss, D.int_i, D.boo_b, D.str_s, D.rows_l, List.getD_cons_zero, List.getD_cons_succ, List.cons_append, List.nil_append, List.append_nil, List.length_cons, List.length_nil, decide_eq_true_eq, decide_eq_false_iff_not, Bool.not_eq_true', Bool.not_eq_false', Bool.and_eq_true, Bool.and_eq_false_iff, Bool.true_eq_false, Bool.false_eq_true, Bool.not_true, Bool.not_false, eq_self, D.len_l]; omega) ?_
        refine To.viaK (by (try simp (disch := omega) only [X.den, X.dens, X.denss, D.int_i, D.boo_b, D.str_s, D.rows_l, List.getD_cons_zero, List.getD_cons_succ, List.cons_append, List.nil_append, List.append_nil, List.length_cons, List.length_nil, decide_eq_true_eq, decide_eq_false_iff_not, Bool.not_eq_true', Bool.not_eq_false', Bool.and_eq_true, Bool.and_eq_false_iff, Bool.true_eq_false, Bool.false_eq_true, Bool.not_true, Bool.not_false, eq_self, D.len_l, wr64, not_true_eq_false, not_false_eq_true]); exact srcN_to src_take4 (by omega) (by omega)) ?_
        rintro _ ρ2 ⟨r, t1, rfl, p1, q1, h1⟩ eρ
        refine ⟨rfl, ?_⟩
        simp only [List.cons_append, List.nil_append] at eρ
        subst eρ
        obtain ⟨m, hm, m0, m1⟩ : ∃ m, far.tmod 6 = m ∧ 0 ≤ m ∧ m < 6 := ⟨_, rfl, Int.tmod_nonneg _ hb.1, Int.tmod_lt_of_pos _ (by decide)⟩
        have ro : RefOk 0 1000 (1 + r) (1 + m) := by unfold RefOk; omega
        refine To.loopK (fun n l => ∃ a0 a1 a2 a3 a4 a5 a6 a7 s a9 a10 k, l = [.i a0, .i a1, .i a2, .i a3, .i a4, .i a5, .i a6, .i a7, .b s, .i a9, .i a10, .i k] ∧ (1 ≤ k ∧ k + n = 12) ∧
            ((k = 1 ∧ s = false) ∨ (1 < k ∧ s = true ∧ a0 = k - 1 ∧ a1 = 7 ∧ a2 = 0 ∧ a3 = 5 ∧ (1 ≤ a4 ∧ a4 < k) ∧ a5 = 7 ∧ a6 = 0 ∧ a7 = 5 ∧ a9 = k - 1)))
          (fun l => ∃ a4 a10 z1 z2 z3 z4 z5 z6 z7 z8 z9 z10 z11, l = [.i 1, .i 11, .i 7, .i 0, .i 5, .i a4, .i 7, .i 0, .i 5, .b true, .i 11, .i a10, z1, z2, z3, z4, z5, z6, z7, z8, z9, z10, z11] ∧ 1 ≤ a4 ∧ a4 < 12) 11 (by omega) ?_ ?_ ?_
        · exact ⟨0, 0, 0, 0, 0, 0, 0, 0, false, 0, 0, 1, by simp only [X.den, X.dens, X.denss, D.int_i, D.boo_b, D.str_s, D.rows_l, List.getD_cons_zero, List.getD_cons_succ, List.cons_append, List.nil_append, List.append_nil, List.length_cons, List.length_nil], by omega, .inl ⟨rfl, rfl⟩⟩
        · rintro n l ρ2 ⟨a0, a1, a2, a3, a4, a5, a6, a7, s, a9, a10, k, rfl, k1, k2⟩ eρ
          simp only [List.cons_append, List.nil_append] at eρ
          subst eρ
          refine To.ite (fun cc => ?_) (fun cc => ?_) <;> simp only [X.den, X.dens, X.denss, D.int_i, D.boo_b, D.str_s, D.rows_l, List.getD_cons_zero, List.getD_cons_succ, List.cons_append, List.nil_append, List.append_nil, List.length_cons, List.length_nil, decide_eq_true_eq, decide_eq_false_iff_not, Bool.not_eq_true', Bool.not_eq_false', Bool.and_eq_true, Bool.and_eq_false_iff, Bool.true_eq_false, Bool.false_eq_true, Bool.not_true, Bool.not_false, eq_self] at cc
          · have fo : FixOk k 7 0 5 := by unfold FixOk; omega
            rcases k2 with ⟨rfl, rfl⟩ | ⟨k3, rfl, q0, q1, q2, q3, k4, q5, q6, q7, q8⟩
            · refine To.viaK (by (try simp (disch := omega) only [X.den, X.dens, X.denss, D.int_i, D.boo_b, D.str_s, D.rows_l, List.getD_cons_zero, List.getD_cons_succ, List.cons_append, List.nil_append, List.append_nil, List.length_cons, List.length_nil, decide_eq_true_eq, decide_eq_false_iff_not, Bool.not_eq_true', Bool.not_eq_false', Bool.and_eq_true, Bool.and_eq_false_iff, Bool.true_eq_false, Bool.false_eq_true, Bool.not_true, Bool.not_false, eq_self, D.len_l, wr64, not_true_eq_false, not_false_eq_true, hm]); exact step_first ro fo) ?_
              rintro _ ρ2 rfl eρ
              refine ⟨rfl, ?_⟩
              simp only [List.cons_append, List.nil_append] at eρ
              subst eρ
              refine To.subK (fun K hK => ?_)
              refine To.yes rfl (To.no rfl (To.ret ⟨rfl, hK _ _ (by simp only [X.den, X.dens, X.denss, D.int_i, D.boo_b, D.str_s, D.rows_l, List.getD_cons_zero, List.getD_cons_succ, List.cons_append, List.nil_append, List.append_nil, List.length_cons, List.length_nil]; rfl) ?_⟩))
              clear hK; clear K
              refine To.no rfl (To.ret (.inl ⟨rfl, n - 1, by omega, ?_⟩))
              simp (disch := omega) only [X.den, X.dens, X.denss, D.int_i, D.boo_b, D.str_s, D.rows_l, List.getD_cons_zero, List.getD_cons_succ, List.cons_append, List.nil_append, List.append_nil, List.length_cons, List.length_nil, wr64, hm]
              exact ⟨_, _, _, _, _, _, _, _, _, _, _, _, rfl, by omega, .inr ⟨by omega, rfl, by omega⟩⟩
            · subst a0 a1 a2 a3 a5 a6 a7 a9
              have fl : FixOk (k - 1) 7 0 5 := by unfold FixOk; omega
              have fg : FixOk a4 7 0 5 := by unfold FixOk; omega
              refine To.viaK (by (try simp (disch := omega) only [X.den, X.dens, X.denss, D.int_i, D.boo_b, D.str_s, D.rows_l, List.getD_cons_zero, List.getD_cons_succ, List.cons_append, List.nil_append, List.append_nil, List.length_cons, List.length_nil, decide_eq_true_eq, decide_eq_false_iff_not, Bool.not_eq_true', Bool.not_eq_false', Bool.and_eq_true, Bool.and_eq_false_iff, Bool.true_eq_false, Bool.false_eq_true, Bool.not_true, Bool.not_false, eq_self, D.len_l, wr64, not_true_eq_false, not_false_eq_true, hm]); exact step_next ro fo fl fg (by omega) (by omega)) ?_
              rintro _ ρ2 ⟨s1, s2, g0, g1, g2, g3, rfl, hs1, hg⟩ eρ
              refine ⟨rfl, ?_⟩
              simp only [List.cons_append, List.nil_append] at eρ
              subst eρ
              have e1 : s1 = k := by omega
              subst e1
              have hh : ((1 + m ≤ s1 ∧ s2 = 3) ∨ (s1 < 1 + m ∧ s2 = 1)) ∧ (1 ≤ g0 ∧ g0 ≤ s1) ∧ g1 = 7 ∧ g2 = 0 ∧ g3 = 5 := by omega
              obtain ⟨hh, hg0, rfl, rfl, rfl⟩ := hh
              clear hg
              refine To.subK (fun K hK => ?_)
              refine To.yes rfl (To.yes (by simp only [X.den, X.dens, X.denss, D.int_i, D.boo_b, D.str_s, D.rows_l, List.getD_cons_zero, List.getD_cons_succ, List.cons_append, List.nil_append, List.append_nil, List.length_cons, List.length_nil, decide_eq_true_eq, decide_eq_false_iff_not, Bool.not_eq_true', Bool.not_eq_false', Bool.and_eq_true, Bool.and_eq_false_iff, Bool.true_eq_false, Bool.false_eq_true, Bool.not_true, Bool.not_false, eq_self]; omega) ?_)
              rcases hh with ⟨hg, rfl⟩ | ⟨hg, rfl⟩
              · have e2 : ¬ s1 < 1 + m := by omega
                refine To.yes (by simp only [X.den, X.dens, X.denss, D.int_i, D.boo_b, D.str_s, D.rows_l, List.getD_cons_zero, List.getD_cons_succ, List.cons_append, List.nil_append, List.append_nil, List.length_cons, List.length_nil, hm, decide_eq_false e2]; rfl) (To.ret ⟨rfl, hK _ _ (by simp only [X.den, X.dens, X.denss, D.int_i, D.boo_b, D.str_s, D.rows_l, List.getD_cons_zero, List.getD_cons_succ, List.cons_append, List.nil_append, List.append_nil, List.length_cons, List.length_nil, hm, decide_eq_false e2]; rfl) ?_⟩)
                clear hK; clear K
                refine To.no rfl (To.ret (.inl ⟨rfl, n - 1, by omega, ?_⟩))
                simp (disch := omega) only [X.den, X.dens, X.denss, D.int_i, D.boo_b, D.str_s, D.rows_l, List.getD_cons_zero, List.getD_cons_succ, List.cons_append, List.nil_append, List.append_nil, List.length_cons, List.length_nil, wr64, hm]
                exact ⟨_, _, _, _, _, _, _, _, _, _, _, _, rfl, by omega, .inr ⟨by omega, rfl, by omega⟩⟩
              · refine To.yes (by simp only [X.den, X.dens, X.denss, D.int_i, D.boo_b, D.str_s, D.rows_l, List.getD_cons_zero, List.getD_cons_succ, List.cons_append, List.nil_append, List.append_nil, List.length_cons, List.length_nil, hm, decide_eq_true hg]; rfl) (To.ret ⟨rfl, hK _ _ (by simp only [X.den, X.dens, X.denss, D.int_i, D.boo_b, D.str_s, D.rows_l, List.getD_cons_zero, List.getD_cons_succ, List.cons_append, List.nil_append, List.append_nil, List.length_cons, List.length_nil, hm, decide_eq_true hg]; rfl) ?_⟩)
                clear hK; clear K
                refine To.no rfl (To.ret (.inl ⟨rfl, n - 1, by omega, ?_⟩))
                simp (disch := omega) only [X.den, X.dens, X.denss, D.int_i, D.boo_b, D.str_s, D.rows_l, List.getD_cons_zero, List.getD_cons_succ, List.cons_append, List.nil_append, List.append_nil, List.length_cons, List.length_nil, wr64, hm]
                exact ⟨_, _, _, _, _, _, _, _, _, _, _, _, rfl, by omega, .inr ⟨by omega, rfl, by omega⟩⟩
          · refine To.ret (.inr ⟨rfl, ?_⟩)
            simp only [X.den, X.dens, X.denss, D.int_i, D.boo_b, D.str_s, D.rows_l, List.getD_cons_zero, List.getD_cons_succ, List.cons_append, List.nil_append, List.append_nil, List.length_cons, List.length_nil]
            rcases k2 with ⟨rfl, rfl⟩ | ⟨k3, rfl, q0, q1, q2, q3, k4, q5, q6, q7, q8⟩
            · omega
            · have ek : k = 12 := by omega
              subst k
              have : a0 = 11 := by omega
              have : a9 = 11 := by omega
              subst a0 a1 a2 a3 a5 a6 a7 a9
              exact ⟨_, _, _, _, _, _, _, _, _, _, _, _, _, rfl, k4⟩
        · rintro l ρ2 ⟨a4, a10, z1, z2, z3, z4, z5, z6, z7, z8, z9, z10, z11, rfl, k4⟩ eρ
          simp only [List.cons_append, List.nil_append] at eρ
          subst eρ
          refine ⟨rfl, To.no rfl ?_⟩
          have fo : FixOk 13 8 0 5 := by unfold FixOk; omega
          have fl : FixOk 11 7 0 5 := by unfold FixOk; omega
          have fg : FixOk a4 7 0 5 := by unfold FixOk; omega
          refine To.viaK (by (try simp (disch := omega) only [X.den, X.dens, X.denss, D.int_i, D.boo_b, D.str_s, D.rows_l, List.getD_cons_zero, List.getD_cons_succ, List.cons_append, List.nil_append, List.append_nil, List.length_cons, List.length_nil, decide_eq_true_eq, decide_eq_false_iff_not, Bool.not_eq_true', Bool.not_eq_false', Bool.and_eq_true, Bool.and_eq_false_iff, Bool.true_eq_false, Bool.false_eq_true, Bool.not_true, Bool.not_false, eq_self, D.len_l, wr64, not_true_eq_false, not_false_eq_true, hm]); exact step_next ro fo fl fg (by omega) (by omega)) ?_
          rintro _ ρ2 ⟨s1, s2, g0, g1, g2, g3, rfl, hs1, hg⟩ eρ
          refine ⟨rfl, ?_⟩
          simp only [List.cons_append, List.nil_append] at eρ
          subst eρ
          have e1 : s1 = 1 := by omega
          subst e1
          have hh : ((m = 0 ∧ s2 = 3) ∨ (1 ≤ m ∧ s2 = 1)) ∧ FixOk g0 g1 g2 g3 := by unfold FixOk; omega
          obtain ⟨hh, fg2⟩ := hh
          clear hg
          refine To.subK (fun K hK => ?_)
          refine To.yes rfl (To.ret ⟨rfl, hK _ _ (by simp only [X.den, X.dens, X.denss, D.int_i, D.boo_b, D.str_s, D.rows_l, List.getD_cons_zero, List.getD_cons_succ, List.cons_append, List.nil_append, List.append_nil, List.length_cons, List.length_nil]; rfl) ?_⟩)
          clear hK; clear K
          refine To.no (by
            rcases hh with ⟨rfl, rfl⟩ | ⟨hg, rfl⟩
            · simp only [X.den, X.dens, X.denss, D.int_i, D.boo_b, D.str_s, D.rows_l, List.getD_cons_zero, List.getD_cons_succ, List.cons_append, List.nil_append, List.append_nil, List.length_cons, List.length_nil, hm]; rfl
            · simp only [X.den, X.dens, X.denss, D.int_i, D.boo_b, D.str_s, D.rows_l, List.getD_cons_zero, List.getD_cons_succ, List.cons_append, List.nil_append, List.append_nil, List.length_cons, List.length_nil, hm, decide_eq_false (show ¬ (1 + m = 1) by omega)]; rfl) ?_
          refine To.viaK (by (try simp (disch := omega) only [X.den, X.dens, X.denss, D.int_i, D.boo_b, D.str_s, D.rows_l, List.getD_cons_zero, List.getD_cons_succ, List.cons_append, List.nil_append, List.append_nil, List.length_cons, List.length_nil, decide_eq_true_eq, decide_eq_false_iff_not, Bool.not_eq_true', Bool.not_eq_false', Bool.and_eq_true, Bool.and_eq_false_iff, Bool.true_eq_false, Bool.false_eq_true, Bool.not_true, Bool.not_false, eq_self, D.len_l, wr64, not_true_eq_false, not_false_eq_true, hm]); exact tick_seen ro fo fg2 (by omega) (t := 12 + (1 + r)) (by omega) (by omega)) ?_
          rintro _ ρ2 ⟨s3, rfl, hs3⟩ eρ
          refine ⟨rfl, ?_⟩
          simp only [List.cons_append, List.nil_append] at eρ
          subst eρ
          have e3 : s3 = s2 := by omega
          subst e3
          refine To.viaK (by (try simp (disch := omega) only [X.den, X.dens, X.denss, D.int_i, D.boo_b, D.str_s, D.rows_l, List.getD_cons_zero, List.getD_cons_succ, List.cons_append, List.nil_append, List.append_nil, List.length_cons, List.length_nil, decide_eq_true_eq, decide_eq_false_iff_not, Bool.not_eq_true', Bool.not_eq_false', Bool.and_eq_true, Bool.and_eq_false_iff, Bool.true_eq_false, Bool.false_eq_true, Bool.not_true, Bool.not_false, eq_self, D.len_l, wr64, not_true_eq_false, not_false_eq_true, hm]); exact tick_seen ro fo fg2 (by omega) (t := 13 + (1 + r)) (by omega) (by omega)) ?_
          rintro _ ρ2 ⟨s4, rfl, hs4⟩ eρ
          refine ⟨rfl, ?_⟩
          simp only [List.cons_append, List.nil_append] at eρ
          subst eρ
          have e4 : s4 = 2 := by omega
          subst e4
          refine To.subK (fun K hK => ?_)
          refine To.yes rfl (To.yes rfl (To.yes (by simp only [X.den, X.dens, X.denss, D.int_i, D.boo_b, D.str_s, D.rows_l, List.getD_cons_zero, List.getD_cons_succ, List.cons_append, List.nil_append, List.append_nil, List.length_cons, List.length_nil]; simp) (To.yes rfl (To.yes (by simp only [X.den, X.dens, X.denss, D.int_i, D.boo_b, D.str_s, D.rows_l, List.getD_cons_zero, List.getD_cons_succ, List.cons_append, List.nil_append, List.append_nil, List.length_cons, List.length_nil]; simp) ?_))))
          refine To.callK (l := [.b true]) rfl rfl _ (by simp only [List.cons_append, List.nil_append]; first | done | rfl) ?_
          refine To.ret ⟨rfl, hK _ _ (by simp only [X.den, X.dens, X.denss, D.int_i, D.boo_b, D.str_s, D.rows_l, List.getD_cons_zero, List.getD_cons_succ, List.cons_append, List.nil_append, List.append_nil, List.length_cons, List.length_nil]; rfl) ?_⟩
          refine To.ret ?_
          simp only [X.den, X.dens, X.denss, D.int_i, D.boo_b, D.str_s, D.rows_l, List.getD_cons_zero, List.getD_cons_succ, List.cons_append, List.nil_append, List.append_nil, List.length_cons, List.length_nil]
      · cases h
    · cases h
theorem MonitorFreezes_walk {w : World} (v : Value) (zs : List Int) (h : IntsIn w w.heap.size v .i64 zs) (hz : ∀ z ∈ zs, (Lit.int .i64 z).wf = true) (a : Int) (ha : (Lit.int .u8 a).wf = true) : Calls Try.prog 5 #[v, .int .u8 a] w fun e w' => e = .returned (.bool true) ∧ Below w.heap.size w w' :=
  con_law MonitorFreezes_ok rfl (fun G hG => args_ints h hG (args_int (by trivial))) (by simp [mFreezes_K]) (ds := [numD zs, .i a]) (by
    have := bounds_u8 ha
    exact if_pos (by omega))
end Go.Proofs.Ytladhlgibapohaa
