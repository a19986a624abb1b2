/- MonitorTrue. -/
import Derived.Test.YtladhlgibapohaaMonS
set_option linter.unusedVariables false
set_option linter.unusedSimpArgs false
namespace Go.Proofs.Ytladhlgibapohaa
open Go.RowKit Fx
def mtM : Models := Models.on srcN_K.f (srcN_T.run noM 0) (Models.on srcRef_K.f (srcRef_T.run srcM1 0) (Models.on mStep_K.f (mStep_T.run noM 0) (Models.on sane07_K.f (fun _ => some [.b true]) noM)))
theorem src_take3 {rows : List (List D)} : SrcOk (rows.take (min (min (rows.length : Int) 9223372036854775807) 600).toNat) 0 := ⟨by omega, by omega, by rw [List.length_take]; omega⟩
theorem MonitorTrue_ok : ConOk Try.prog mTrue_K fun ds => match ds with | [.l _] => some [.b true] | _ => none :=
  con_of follows (M := mtM) (one_con (srcN_ok.to _) (one_con (srcRef_ok.to _) (one_con (mStep_ok.to _) (one_con (sane07_ok.to _) no_cons)))) mTrue_t fun ds outs hl h => by
    split at h
    · rename_i rows
      injection h with h
      subst h
      refine ⟨fun i l h k => by simp [mTrue_K] at k, 20, ?_⟩
      unfold mTrue_T
      refine To.need (by simp only [X.den, X.dens, X.denss, D.int_i, D.boo_b, D.str_s, D.rows_l, List.getD_cons_zero, List.getD_cons_succ, List.cons_append, List.nil_append, List.append_nil, List.length_cons, List.length_nil, decide_eq_true_eq, decide_eq_false_iff_not, Bool.not_eq_true', Bool.not_eq_false', Bool.and_eq_true, Bool.and_eq_false_iff, Bool.true_eq_false, Bool.false_eq_true, Bool.not_true, Bool.not_false, eq_self, D.len_l]; omega) ?_
      refine To.viaK (by (try simp (disch := omega) only [X.den, X.dens, X.denss, D.int_i, D.boo_b, D.str_s, D.rows_l, List.getD_cons_zero, List.getD_cons_succ, List.cons_append, List.nil_append, List.append_nil, List.length_cons, List.length_nil, decide_eq_true_eq, decide_eq_false_iff_not, Bool.not_eq_true', Bool.not_eq_false', Bool.and_eq_true, Bool.and_eq_false_iff, Bool.true_eq_false, Bool.false_eq_true, Bool.not_true, Bool.not_false, eq_self, D.len_l, wr64, not_true_eq_false, not_false_eq_true]); exact srcRef_to src_take3) ?_
      rintro _ ρ2 ⟨c, sp, st, fr, t1, rfl, b1, b2, b3, b4, h1⟩ eρ
      refine ⟨rfl, ?_⟩
      simp only [List.cons_append, List.nil_append] at eρ
      subst eρ
      generalize (List.take _ _ : List (List D)) = rs at h1 ⊢
      refine To.viaK (by (try simp (disch := omega) only [X.den, X.dens, X.denss, D.int_i, D.boo_b, D.str_s, D.rows_l, List.getD_cons_zero, List.getD_cons_succ, List.cons_append, List.nil_append, List.append_nil, List.length_cons, List.length_nil, decide_eq_true_eq, decide_eq_false_iff_not, Bool.not_eq_true', Bool.not_eq_false', Bool.and_eq_true, Bool.and_eq_false_iff, Bool.true_eq_false, Bool.false_eq_true, Bool.not_true, Bool.not_false, eq_self, D.len_l, wr64, not_true_eq_false, not_false_eq_true]); exact srcN_to h1 (by omega) (by omega)) ?_
      rintro _ ρ2 ⟨kk, t2, rfl, p2, q2, h2⟩ eρ
      refine ⟨rfl, ?_⟩
      simp only [List.cons_append, List.nil_append] at eρ
      subst eρ
      have ro : RefOk c sp st 0 := by unfold RefOk; omega
      refine To.loopK (fun m l => ∃ at_ a0 a1 a2 a3 a4 a5 a6 a7 s a9 a10 x y tm k, l = [.l rs, .i at_, .i a0, .i a1, .i a2, .i a3, .i a4, .i a5, .i a6, .i a7, .b s, .i a9, .i a10, .i x, .i y, .i tm, .i k] ∧ SrcOk rs at_ ∧ k = m ∧ (0 ≤ k ∧ k ≤ 11) ∧ (0 ≤ tm ∧ tm + 4 * k ≤ 44) ∧ (-4400 ≤ x - 400 * k ∧ x + 400 * k ≤ 4400) ∧ (-4400 ≤ y - 400 * k ∧ y + 400 * k ≤ 4400) ∧
          (s = false ∨ (s = true ∧ a0 = tm ∧ a1 = a5 ∧ a2 = a6 ∧ a3 = a7 ∧ a4 = tm ∧ (-a7 ≤ a5 - x ∧ a5 - x ≤ a7) ∧ (-a7 ≤ a6 - y ∧ a6 - y ≤ a7) ∧ (1 ≤ a7 ∧ a7 ≤ 200) ∧ (1 ≤ a9 ∧ a9 + k ≤ 20))))
        (fun l => ∃ z1 z2 z3 z4 z5 z6 z7 z8 z9 z10 z11 z12 z13 z14 z15 z16 z17 z18 z19 z20 z21 z22 z23 z24, l = [.i 1, z1, z2, z3, z4, z5, z6, z7, z8, z9, z10, z11, z12, z13, z14, z15, z16, z17, z18, z19, z20, z21, z22, z23, z24]) kk.toNat (by omega) ?_ ?_ ?_
      · exact ⟨t2, 0, 0, 0, 0, 0, 0, 0, 0, false, 0, 0, 0, 0, 0, kk, by simp only [X.den, X.dens, X.denss, D.int_i, D.boo_b, D.str_s, D.rows_l, List.getD_cons_zero, List.getD_cons_succ, List.cons_append, List.nil_append, List.append_nil, List.length_cons, List.length_nil], h2, by omega, by omega, by omega, by omega, by omega, .inl rfl⟩
      · rintro m l ρ2 ⟨at_, a0, a1, a2, a3, a4, a5, a6, a7, s, a9, a10, x, y, tm, k, rfl, hs, hk, k0, k1, k2, k3, k4⟩ eρ
        simp only [List.cons_append, List.nil_append] at eρ
        subst eρ
        refine To.ite (fun cc => ?_) (fun cc => ?_) <;> simp only [X.den, X.dens, X.denss, D.int_i, D.boo_b, D.str_s, D.rows_l, List.getD_cons_zero, List.getD_cons_succ, List.cons_append, List.nil_append, List.append_nil, List.length_cons, List.length_nil, decide_eq_true_eq, decide_eq_false_iff_not, Bool.not_eq_true', Bool.not_eq_false', Bool.and_eq_true, Bool.and_eq_false_iff, Bool.true_eq_false, Bool.false_eq_true, Bool.not_true, Bool.not_false, eq_self] at cc
        · refine To.viaK (by (try simp (disch := omega) only [X.den, X.dens, X.denss, D.int_i, D.boo_b, D.str_s, D.rows_l, List.getD_cons_zero, List.getD_cons_succ, List.cons_append, List.nil_append, List.append_nil, List.length_cons, List.length_nil, decide_eq_true_eq, decide_eq_false_iff_not, Bool.not_eq_true', Bool.not_eq_false', Bool.and_eq_true, Bool.and_eq_false_iff, Bool.true_eq_false, Bool.false_eq_true, Bool.not_true, Bool.not_false, eq_self, D.len_l, wr64, not_true_eq_false, not_false_eq_true]); exact srcN_to hs (by omega) (by omega)) ?_
          rintro _ ρ2 ⟨d, t3, rfl, p3, q3, h3⟩ eρ
          refine ⟨rfl, ?_⟩
          simp only [List.cons_append, List.nil_append] at eρ
          subst eρ
          obtain ⟨P, hP, P0, P1⟩ : ∃ P, sp * (1 + d) = P ∧ 0 ≤ P ∧ P ≤ 400 := ⟨_, rfl, by rcases b2 with rfl | rfl | rfl <;> omega, by rcases b2 with rfl | rfl | rfl <;> omega⟩
          have hP2 : (0 - sp) * (1 + d) = -P := by rw [Int.zero_sub, Int.neg_mul, hP]
          refine To.viaK (by (try simp (disch := omega) only [X.den, X.dens, X.denss, D.int_i, D.boo_b, D.str_s, D.rows_l, List.getD_cons_zero, List.getD_cons_succ, List.cons_append, List.nil_append, List.append_nil, List.length_cons, List.length_nil, decide_eq_true_eq, decide_eq_false_iff_not, Bool.not_eq_true', Bool.not_eq_false', Bool.and_eq_true, Bool.and_eq_false_iff, Bool.true_eq_false, Bool.false_eq_true, Bool.not_true, Bool.not_false, eq_self, D.len_l, wr64, not_true_eq_false, not_false_eq_true, hP, hP2]); exact srcN_to h3 (by omega) (by omega)) ?_
          rintro _ ρ2 ⟨u, t4, rfl, p4, q4, h4⟩ eρ
          refine ⟨rfl, ?_⟩
          simp only [List.cons_append, List.nil_append] at eρ
          subst eρ
          refine To.viaK (by (try simp (disch := omega) only [X.den, X.dens, X.denss, D.int_i, D.boo_b, D.str_s, D.rows_l, List.getD_cons_zero, List.getD_cons_succ, List.cons_append, List.nil_append, List.append_nil, List.length_cons, List.length_nil, decide_eq_true_eq, decide_eq_false_iff_not, Bool.not_eq_true', Bool.not_eq_false', Bool.and_eq_true, Bool.and_eq_false_iff, Bool.true_eq_false, Bool.false_eq_true, Bool.not_true, Bool.not_false, eq_self, D.len_l, wr64, not_true_eq_false, not_false_eq_true, hP, hP2]); exact srcN_to h4 (by omega) (by omega)) ?_
          rintro _ ρ2 ⟨v, t5, rfl, p5, q5, h5⟩ eρ
          refine ⟨rfl, ?_⟩
          simp only [List.cons_append, List.nil_append] at eρ
          subst eρ
          refine To.viaK (by (try simp (disch := omega) only [X.den, X.dens, X.denss, D.int_i, D.boo_b, D.str_s, D.rows_l, List.getD_cons_zero, List.getD_cons_succ, List.cons_append, List.nil_append, List.append_nil, List.length_cons, List.length_nil, decide_eq_true_eq, decide_eq_false_iff_not, Bool.not_eq_true', Bool.not_eq_false', Bool.and_eq_true, Bool.and_eq_false_iff, Bool.true_eq_false, Bool.false_eq_true, Bool.not_true, Bool.not_false, eq_self, D.len_l, wr64, not_true_eq_false, not_false_eq_true]); exact srcN_to h5 (by omega) (by omega)) ?_
          rintro _ ρ2 ⟨j, t6, rfl, p6, q6, h6⟩ eρ
          refine ⟨rfl, ?_⟩
          simp only [List.cons_append, List.nil_append] at eρ
          subst eρ
          refine To.need (by simp only [X.den, X.dens, X.denss, D.int_i, D.boo_b, D.str_s, D.rows_l, List.getD_cons_zero, List.getD_cons_succ, List.cons_append, List.nil_append, List.append_nil, List.length_cons, List.length_nil, decide_eq_true_eq, decide_eq_false_iff_not, Bool.not_eq_true', Bool.not_eq_false', Bool.and_eq_true, Bool.and_eq_false_iff, Bool.true_eq_false, Bool.false_eq_true, Bool.not_true, Bool.not_false, eq_self]; omega) ?_
          obtain ⟨er, her, eer⟩ := pick_cell (zs := [1, 10, 200]) p6 q6
          have eer : (D.l [[.i 1], [.i 10], [.i 200]]).cell j 0 = .i er := eer
          simp only [List.mem_cons, List.not_mem_nil, or_false] at her
          have e0 : 1 ≤ er ∧ er ≤ 200 := by omega
          clear her
          refine To.viaK (by (try simp (disch := omega) only [X.den, X.dens, X.denss, D.int_i, D.boo_b, D.str_s, D.rows_l, List.getD_cons_zero, List.getD_cons_succ, List.cons_append, List.nil_append, List.append_nil, List.length_cons, List.length_nil, decide_eq_true_eq, decide_eq_false_iff_not, Bool.not_eq_true', Bool.not_eq_false', Bool.and_eq_true, Bool.and_eq_false_iff, Bool.true_eq_false, Bool.false_eq_true, Bool.not_true, Bool.not_false, eq_self, D.len_l, wr64, not_true_eq_false, not_false_eq_true, eer]); exact srcN_to h6 (by omega) (by omega)) ?_
          rintro _ ρ2 ⟨f, t7, rfl, p7, q7, h7⟩ eρ
          refine ⟨rfl, ?_⟩
          simp only [List.cons_append, List.nil_append] at eρ
          subst eρ
          refine To.viaK (by (try simp (disch := omega) only [X.den, X.dens, X.denss, D.int_i, D.boo_b, D.str_s, D.rows_l, List.getD_cons_zero, List.getD_cons_succ, List.cons_append, List.nil_append, List.append_nil, List.length_cons, List.length_nil, decide_eq_true_eq, decide_eq_false_iff_not, Bool.not_eq_true', Bool.not_eq_false', Bool.and_eq_true, Bool.and_eq_false_iff, Bool.true_eq_false, Bool.false_eq_true, Bool.not_true, Bool.not_false, eq_self, D.len_l, wr64, not_true_eq_false, not_false_eq_true, eer]); exact srcN_to h7 (by omega) (by omega)) ?_
          rintro _ ρ2 ⟨g, t8, rfl, p8, q8, h8⟩ eρ
          refine ⟨rfl, ?_⟩
          simp only [List.cons_append, List.nil_append] at eρ
          subst eρ
          have fo : FixOk (tm + (1 + d)) (x + (-P + u) + (0 - er + f)) (y + (-P + v) + (0 - er + g)) er := by unfold FixOk; omega
          have key : sp * (tm + (1 + d) - tm) = P := by rw [show tm + (1 + d) - tm = 1 + d by omega, hP]
          rcases k4 with rfl | ⟨rfl, q0, q1, q2, q3, q4, c1, c2, c3, c4⟩
          · refine To.viaK (by (try simp (disch := omega) only [X.den, X.dens, X.denss, D.int_i, D.boo_b, D.str_s, D.rows_l, List.getD_cons_zero, List.getD_cons_succ, List.cons_append, List.nil_append, List.append_nil, List.length_cons, List.length_nil, decide_eq_true_eq, decide_eq_false_iff_not, Bool.not_eq_true', Bool.not_eq_false', Bool.and_eq_true, Bool.and_eq_false_iff, Bool.true_eq_false, Bool.false_eq_true, Bool.not_true, Bool.not_false, eq_self, D.len_l, wr64, not_true_eq_false, not_false_eq_true, hP, hP2, eer]); exact step_first ro fo) ?_
            rintro _ ρ2 rfl eρ
            refine ⟨rfl, ?_⟩
            simp only [List.cons_append, List.nil_append] at eρ
            subst eρ
            refine To.subK (fun K hK => ?_)
            refine To.yes rfl (To.ret ⟨rfl, hK _ _ (by simp only [X.den, X.dens, X.denss, D.int_i, D.boo_b, D.str_s, D.rows_l, List.getD_cons_zero, List.getD_cons_succ, List.cons_append, List.nil_append, List.append_nil, List.length_cons, List.length_nil]; rfl) ?_⟩)
            clear hK; clear K
            refine To.no rfl (To.ret (.inl ⟨rfl, m - 1, by omega, ?_⟩))
            simp (disch := omega) only [X.den, X.dens, X.denss, D.int_i, D.boo_b, D.str_s, D.rows_l, List.getD_cons_zero, List.getD_cons_succ, List.cons_append, List.nil_append, List.append_nil, List.length_cons, List.length_nil, wr64, hP, hP2, eer]
            exact ⟨_, _, _, _, _, _, _, _, _, _, _, _, _, _, _, _, rfl, h8, by omega, by omega, by omega, by omega, by omega, .inr ⟨rfl, rfl, rfl, rfl, rfl, rfl, by omega, by omega, by omega, by omega⟩⟩
          · subst a0 a1 a2 a3 a4
            have fl : FixOk tm a5 a6 a7 := by unfold FixOk; omega
            refine To.viaK (by (try simp (disch := omega) only [X.den, X.dens, X.denss, D.int_i, D.boo_b, D.str_s, D.rows_l, List.getD_cons_zero, List.getD_cons_succ, List.cons_append, List.nil_append, List.append_nil, List.length_cons, List.length_nil, decide_eq_true_eq, decide_eq_false_iff_not, Bool.not_eq_true', Bool.not_eq_false', Bool.and_eq_true, Bool.and_eq_false_iff, Bool.true_eq_false, Bool.false_eq_true, Bool.not_true, Bool.not_false, eq_self, D.len_l, wr64, not_true_eq_false, not_false_eq_true, hP, hP2, eer]); exact step_next ro fo fl fl (by omega) (by omega)) ?_
            rintro _ ρ2 ⟨s1, s2, g0, g1, g2, g3, rfl, hs1, hg⟩ eρ
            refine ⟨rfl, ?_⟩
            simp only [List.cons_append, List.nil_append] at eρ
            subst eρ
            rw [key] at hg
            have hg : s2 = 1 ∧ g0 = tm + (1 + d) ∧ g1 = x + (-P + u) + (0 - er + f) ∧ g2 = y + (-P + v) + (0 - er + g) ∧ g3 = er := by omega
            obtain ⟨rfl, rfl, rfl, rfl, rfl⟩ := hg
            refine To.subK (fun K hK => ?_)
            refine To.yes rfl (To.ret ⟨rfl, hK _ _ (by simp only [X.den, X.dens, X.denss, D.int_i, D.boo_b, D.str_s, D.rows_l, List.getD_cons_zero, List.getD_cons_succ, List.cons_append, List.nil_append, List.append_nil, List.length_cons, List.length_nil]; rfl) ?_⟩)
            clear hK; clear K
            refine To.no rfl (To.ret (.inl ⟨rfl, m - 1, by omega, ?_⟩))
            simp (disch := omega) only [X.den, X.dens, X.denss, D.int_i, D.boo_b, D.str_s, D.rows_l, List.getD_cons_zero, List.getD_cons_succ, List.cons_append, List.nil_append, List.append_nil, List.length_cons, List.length_nil, wr64, hP, hP2, eer]
            exact ⟨_, _, _, _, _, _, _, _, _, _, _, _, _, _, _, _, rfl, h8, by omega, by omega, by omega, by omega, by omega, .inr ⟨rfl, rfl, rfl, rfl, rfl, rfl, by omega, by omega, by omega, by omega⟩⟩
        · refine To.ret (.inr ⟨rfl, ?_⟩)
          simp only [X.den, X.dens, X.denss, D.int_i, D.boo_b, D.str_s, D.rows_l, List.getD_cons_zero, List.getD_cons_succ, List.cons_append, List.nil_append, List.append_nil, List.length_cons, List.length_nil]
          exact ⟨_, _, _, _, _, _, _, _, _, _, _, _, _, _, _, _, _, _, _, _, _, _, _, _, rfl⟩
      · rintro l ρ2 ⟨z1, z2, z3, z4, z5, z6, z7, z8, z9, z10, z11, z12, z13, z14, z15, z16, z17, z18, z19, z20, z21, z22, z23, z24, rfl⟩ eρ
        simp only [List.cons_append, List.nil_append] at eρ
        subst eρ
        refine ⟨rfl, To.no rfl ?_⟩
        refine To.callK (l := [.b true]) rfl rfl _ (by simp only [List.cons_append, List.nil_append]; first | done | rfl) ?_
        refine To.ret ?_
        simp only [X.den, X.dens, X.denss, D.int_i, D.boo_b, D.str_s, D.rows_l, List.getD_cons_zero, List.getD_cons_succ, List.cons_append, List.nil_append, List.append_nil, List.length_cons, List.length_nil]
    · cases h
theorem MonitorTrue_walk {w : World} (v : Value) (zs : List Int) (h : IntsIn w w.heap.size v .i64 zs) (hz : ∀ z ∈ zs, (Lit.int .i64 z).wf = true) : Calls Try.prog 4 #[v] w fun e w' => e = .returned (.bool true) ∧ Below w.heap.size w w' :=
  con_law MonitorTrue_ok rfl (fun G hG => args_ints h hG (by trivial)) (by simp [mTrue_K]) (ds := [numD zs]) rfl
end Go.Proofs.Ytladhlgibapohaa
