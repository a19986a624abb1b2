/- VesselExact: all functions for any hulls, motions and forces: the program's give what the reference's give. -/
import Derived.Test.YtdkamfkpmplaoaaVxM
set_option linter.unusedVariables false
set_option linter.unusedSimpArgs false
set_option maxRecDepth 100000
namespace Go.Proofs.Ytdkamfkpmplaoaa
open Go.RowKit Fx
noncomputable def veM : Models := Models.on srcN_K.f (srcN_T.run noM 0) (Models.on srcHull_K.f (srcHull_T.run srcHM 0) (Models.on srcBent22_K.f (srcBent22_T.run srcM 20) (Models.on srcMotion_K.f (srcMotion_T.run srcM 0) (Models.on srcForce_K.f (srcForce_T.run srcM 0) (Models.on srcPick_K.f (srcPick_T.run srcM 0) (Models.on xvV_K.f vlM (Models.on yvV_K.f vlM (Models.on xvP_K.f plM (Models.on yvP_K.f plM (Models.on xvH_K.f hdM (Models.on yvH_K.f hdM (Models.on xvS_K.f (xvS_T.run noM 0) (Models.on yvS_K.f (xvS_T.run noM 0) (Models.on vStep_K.f stW (Models.on yStep_K.f stW (Models.on vRun_K.f rnW (Models.on yRun_K.f rnW (Models.on sane23_K.f (fun _ => some [.b true]) noM))))))))))))))))))
def veR : List D → Option (List D) := fun ds => match ds with
  | [.l rows, .i r0, .i r1, .i r2, .i r3, .i r4, .i r5, .i r6, .i p0, .i p1, .i p2, .i ticks] => if -9223372036854775808 ≤ r3 ∧ r3 ≤ 9223372036854775807 then some [.b true] else none
  | _ => none
set_option maxHeartbeats 8000000 in
theorem ve_ok : ConOk Try.prog vExact_K veR :=
  con_of follows (M := veM) (one_con (srcN_ok.to _) (one_con (srcHull_ok.to _) (one_con (srcBent22_ok.to _) (one_con (srcMotion_ok.to _) (one_con (srcForce_ok.to _) (one_con (srcPick_ok.to _) (one_con (xvV_ok.to _) (one_con (yvV_ok.to _) (one_con (xvP_ok.to _) (one_con (yvP_ok.to _) (one_con (xvH_ok.to _) (one_con (yvH_ok.to _) (one_con (xvS_ok.to _) (one_con (yvS_ok.to _) (one_con (xStep_ok.to _) (one_con (yStep_ok.to _) (one_con (xRun_ok.to _) (one_con (yRun_ok.to _) (one_con (sane23_ok.to _) no_cons))))))))))))))))))) vExact_t fun ds outs hl h => by
    unfold veR at h
    split at h
    case h_2 => cases h
    rename_i rows r0 r1 r2 r3 r4 r5 r6 p0 p1 p2 ticks
    split at h
    case isFalse => cases h
    rename_i hr3
    injection h with h
    subst h
    refine ⟨fun i l h k => by simp [vExact_K] at k, 10, ?_⟩
    unfold vExact_T
    refine To.ite (fun c => ?_) (fun c => ?_) <;> simp only [X.den, X.dens, X.denss, D.int_i, D.boo_b, D.str_s, D.rows_l, List.getD_cons_zero, List.getD_cons_succ, List.cons_append, List.nil_append, List.append_nil, List.length_cons, List.length_nil, decide_eq_true_eq, decide_eq_false_iff_not, Bool.not_eq_true', Bool.not_eq_false', Bool.and_eq_true, Bool.and_eq_false_iff, Bool.true_eq_false, Bool.false_eq_true, Bool.not_true, Bool.not_false, eq_self, D.len_l] at c
    · refine To.callK (l := [.b true]) rfl rfl _ (by simp only [List.cons_append, List.nil_append]; first | done | rfl) (To.ret ?_)
      simp only [X.den, X.dens, X.denss, D.int_i, D.boo_b, D.str_s, D.rows_l, List.getD_cons_zero, List.getD_cons_succ, List.cons_append, List.nil_append, List.append_nil, List.length_cons, List.length_nil]
    refine To.need (by simp only [X.den, X.dens, X.denss, D.int_i, D.boo_b, D.str_s, D.rows_l, List.getD_cons_zero, List.getD_cons_succ, List.cons_append, List.nil_append, List.append_nil, List.length_cons, List.length_nil, decide_eq_true_eq, decide_eq_false_iff_not, Bool.not_eq_true', Bool.not_eq_false', Bool.and_eq_true, Bool.and_eq_false_iff, Bool.true_eq_false, Bool.false_eq_true, Bool.not_true, Bool.not_false, eq_self, D.len_l]; omega) ?_
    refine To.viaK (by (try simp (disch := omega) only [X.den, X.dens, X.denss, D.int_i, D.boo_b, D.str_s, D.rows_l, List.getD_cons_zero, List.getD_cons_succ, List.cons_append, List.nil_append, List.append_nil, List.length_cons, List.length_nil, decide_eq_true_eq, decide_eq_false_iff_not, Bool.not_eq_true', Bool.not_eq_false', Bool.and_eq_true, Bool.and_eq_false_iff, Bool.true_eq_false, Bool.false_eq_true, Bool.not_true, Bool.not_false, eq_self, D.len_l, wr64, not_true_eq_false, not_false_eq_true]); exact srcHull_to (src0 c)) ?_
    rintro _ ρ2 ⟨h0, h1, h2, h3, h4, h5, h6, h7, h8, h9, h10, h11, h12, t1, rfl, hu, s1⟩ eρ
    refine ⟨rfl, ?_⟩
    simp only [List.cons_append, List.nil_append] at eρ
    subst eρ
    clear hu
    generalize (List.take _ _ : List (List D)) = rs at s1 ⊢
    refine To.viaK (by (try simp (disch := omega) only [X.den, X.dens, X.denss, D.int_i, D.boo_b, D.str_s, D.rows_l, List.getD_cons_zero, List.getD_cons_succ, List.cons_append, List.nil_append, List.append_nil, List.length_cons, List.length_nil, decide_eq_true_eq, decide_eq_false_iff_not, Bool.not_eq_true', Bool.not_eq_false', Bool.and_eq_true, Bool.and_eq_false_iff, Bool.true_eq_false, Bool.false_eq_true, Bool.not_true, Bool.not_false, eq_self, D.len_l, wr64, not_true_eq_false, not_false_eq_true]); exact srcMotion_to s1) ?_
    rintro _ ρ2 ⟨m0, m1, m2, m3, m4, m5, m6, t2, rfl, _, _, _, _, _, _, c30, c31, _, _, _, _, _, _, s2⟩ eρ
    refine ⟨rfl, ?_⟩
    simp only [List.cons_append, List.nil_append] at eρ
    subst eρ
    refine To.viaK (by (try simp (disch := omega) only [X.den, X.dens, X.denss, D.int_i, D.boo_b, D.str_s, D.rows_l, List.getD_cons_zero, List.getD_cons_succ, List.cons_append, List.nil_append, List.append_nil, List.length_cons, List.length_nil, decide_eq_true_eq, decide_eq_false_iff_not, Bool.not_eq_true', Bool.not_eq_false', Bool.and_eq_true, Bool.and_eq_false_iff, Bool.true_eq_false, Bool.false_eq_true, Bool.not_true, Bool.not_false, eq_self, D.len_l, wr64, not_true_eq_false, not_false_eq_true]); exact srcPick_to s2 (a := 100000) (b := -100000) (c := 100001)) ?_
    rintro _ ρ2 ⟨k1, t3, rfl, s3⟩ eρ
    refine ⟨rfl, ?_⟩
    simp only [List.cons_append, List.nil_append] at eρ
    subst eρ
    refine To.viaK (by (try simp (disch := omega) only [X.den, X.dens, X.denss, D.int_i, D.boo_b, D.str_s, D.rows_l, List.getD_cons_zero, List.getD_cons_succ, List.cons_append, List.nil_append, List.append_nil, List.length_cons, List.length_nil, decide_eq_true_eq, decide_eq_false_iff_not, Bool.not_eq_true', Bool.not_eq_false', Bool.and_eq_true, Bool.and_eq_false_iff, Bool.true_eq_false, Bool.false_eq_true, Bool.not_true, Bool.not_false, eq_self, D.len_l, wr64, not_true_eq_false, not_false_eq_true]); exact srcPick_to s3 (a := 10000000000) (b := -10000000000) (c := 0)) ?_
    rintro _ ρ2 ⟨k2, t4, rfl, s4⟩ eρ
    refine ⟨rfl, ?_⟩
    simp only [List.cons_append, List.nil_append] at eρ
    subst eρ
    refine To.viaK (by (try simp (disch := omega) only [X.den, X.dens, X.denss, D.int_i, D.boo_b, D.str_s, D.rows_l, List.getD_cons_zero, List.getD_cons_succ, List.cons_append, List.nil_append, List.append_nil, List.length_cons, List.length_nil, decide_eq_true_eq, decide_eq_false_iff_not, Bool.not_eq_true', Bool.not_eq_false', Bool.and_eq_true, Bool.and_eq_false_iff, Bool.true_eq_false, Bool.false_eq_true, Bool.not_true, Bool.not_false, eq_self, D.len_l, wr64, not_true_eq_false, not_false_eq_true]); exact srcBent22_in s4) ?_
    rintro _ ρ2 ⟨b0, b1, b2, b3, b4, b5, b6, b7, b8, b9, b10, b11, b12, t5, rfl, s5⟩ eρ
    refine ⟨rfl, ?_⟩
    simp only [List.cons_append, List.nil_append] at eρ
    subst eρ
    refine To.loopK (fun m l => ∃ t i : Int, l = [.l rs, .i t, .i i] ∧ SrcOk rs t ∧ 0 ≤ i ∧ i + m = 2) (fun l => ∃ e1 e2 e3 e4 e5 e6 e7 e8 e9 e10 e11 e12 e13 e14 e15 e16 e17 e18 e19 e20 e21 e22, l = [.i 1, e1, e2, e3, e4, e5, e6, e7, e8, e9, e10, e11, e12, e13, e14, e15, e16, e17, e18, e19, e20, e21, e22]) 2 (by omega) ?_ ?_ ?_
    · exact ⟨t5, 0, by simp only [X.den, X.dens, X.denss, D.int_i, D.boo_b, D.str_s, D.rows_l, List.getD_cons_zero, List.getD_cons_succ, List.cons_append, List.nil_append, List.append_nil, List.length_cons, List.length_nil], s5, by omega, by omega⟩
    · rintro m l ρ2 ⟨t6, i, rfl, s6, i0, i1⟩ eρ
      simp only [List.cons_append, List.nil_append] at eρ
      subst eρ
      refine To.ite (fun c => ?_) (fun c => ?_) <;> simp only [X.den, X.dens, X.denss, D.int_i, D.boo_b, D.str_s, D.rows_l, List.getD_cons_zero, List.getD_cons_succ, List.cons_append, List.nil_append, List.append_nil, List.length_cons, List.length_nil, decide_eq_true_eq, decide_eq_false_iff_not, Bool.not_eq_true', Bool.not_eq_false', Bool.and_eq_true, Bool.and_eq_false_iff, Bool.true_eq_false, Bool.false_eq_true, Bool.not_true, Bool.not_false, eq_self] at c
      · refine To.joinK (fun l => ∃ x0 x1 x2 x3 x4 x5 x6 x7 x8, ∃ x9 x10 x11 x12 : Int, l = [x0, x1, x2, x3, x4, x5, x6, x7, x8, .i x9, .i x10, .i x11, .i x12, x0, x1, x2, x3, x4, x5, x6, x7, x8, .i x9, .i x10, .i x11, .i x12]) ?_ ?_
        · refine To.ite (fun c => To.ret ⟨rfl, _, _, _, _, _, _, _, _, _, _, _, _, _, rfl⟩) (fun c => To.ret ⟨rfl, _, _, _, _, _, _, _, _, _, _, _, _, _, rfl⟩)
        rintro l ρ2 ⟨x0, x1, x2, x3, x4, x5, x6, x7, x8, x9, x10, x11, x12, rfl⟩ eρ
        simp only [List.cons_append, List.nil_append] at eρ
        subst eρ
        refine To.loopK (fun m l => ∃ t j : Int, l = [.l rs, .i t, .i j] ∧ SrcOk rs t ∧ 0 ≤ j ∧ j + m = 3) (fun l => ∃ t rest, l = .i 1 :: .l rs :: .i t :: rest ∧ rest.length = 39 ∧ SrcOk rs t) 3 (by omega) ?_ ?_ ?_
        · exact ⟨t6, 0, by simp only [X.den, X.dens, X.denss, D.int_i, D.boo_b, D.str_s, D.rows_l, List.getD_cons_zero, List.getD_cons_succ, List.cons_append, List.nil_append, List.append_nil, List.length_cons, List.length_nil], s6, by omega, by omega⟩
        · rintro m l ρ2 ⟨t7, j, rfl, s7, j0, j1⟩ eρ
          simp only [List.cons_append, List.nil_append] at eρ
          subst eρ
          refine To.ite (fun c => ?_) (fun c => ?_) <;> simp only [X.den, X.dens, X.denss, D.int_i, D.boo_b, D.str_s, D.rows_l, List.getD_cons_zero, List.getD_cons_succ, List.cons_append, List.nil_append, List.append_nil, List.length_cons, List.length_nil, decide_eq_true_eq, decide_eq_false_iff_not, Bool.not_eq_true', Bool.not_eq_false', Bool.and_eq_true, Bool.and_eq_false_iff, Bool.true_eq_false, Bool.false_eq_true, Bool.not_true, Bool.not_false, eq_self] at c
          · refine To.joinK (fun l => ∃ t rest, l = .i 1 :: .l rs :: .i t :: rest ∧ SrcOk rs t) ?_ ?_
            · refine To.joinK (fun l => ∃ y0 y1 y2 y3 y4 y5 y6 : Int, l = [.i y0, .i y1, .i y2, .i y3, .i y4, .i y5, .i y6, .i y0, .i y1, .i y2, .i y3, .i y4, .i y5, .i y6] ∧ -9223372036854775808 ≤ y3 ∧ y3 ≤ 9223372036854775807) ?_ ?_
              · refine To.ite (fun c => To.ret ⟨rfl, _, _, _, _, _, _, _, rfl, by omega, by omega⟩) (fun c => To.ite (fun c => To.ret ⟨rfl, _, _, _, _, _, _, _, rfl, by omega, by omega⟩) (fun c => To.ret ⟨rfl, _, _, _, _, _, _, _, rfl, by omega, by omega⟩))
              rintro l ρ2 ⟨y0, y1, y2, y3, y4, y5, y6, rfl, y30, y31⟩ eρ
              simp only [List.cons_append, List.nil_append] at eρ
              subst eρ
              refine To.joinK (fun l => ∃ z1 z2 z3 z4 z5 z6 z7 z8, l = [z1, z2, z3, z4, z5, z6, z7, z8, .b false]) ?_ ?_
              · refine To.callK (l := [.b (vlB y0 y1 y2 y3 y4 y5 y6)]) rfl rfl _ (by simp only [List.cons_append, List.nil_append]; first | done | rfl) ?_
                refine To.callK (l := [.b (vlB y0 y1 y2 y3 y4 y5 y6)]) rfl rfl _ (by simp only [List.cons_append, List.nil_append]; first | done | rfl) ?_
                refine To.yes (by simp only [X.den, X.dens, X.denss, D.int_i, D.boo_b, D.str_s, D.rows_l, List.getD_cons_zero, List.getD_cons_succ, List.cons_append, List.nil_append, List.append_nil, List.length_cons, List.length_nil]; simp) ?_
                refine To.callK (l := [.i (flp y1), .i (flp y2)]) rfl rfl _ (by simp only [List.cons_append, List.nil_append]; first | done | rfl) ?_
                refine To.callK (l := [.i (flp y1), .i (flp y2)]) rfl rfl _ (by simp only [List.cons_append, List.nil_append]; first | done | rfl) ?_
                refine To.yes (by simp only [X.den, X.dens, X.denss, D.int_i, D.boo_b, D.str_s, D.rows_l, List.getD_cons_zero, List.getD_cons_succ, List.cons_append, List.nil_append, List.append_nil, List.length_cons, List.length_nil]; simp) ?_
                refine To.callK (l := [.i (y3 % 360000 / 100)]) (if_pos ⟨y30, y31⟩) rfl _ (by simp only [List.cons_append, List.nil_append]; first | done | rfl) ?_
                refine To.callK (l := [.i (y3 % 360000 / 100)]) (if_pos ⟨y30, y31⟩) rfl _ (by simp only [List.cons_append, List.nil_append]; first | done | rfl) ?_
                refine To.yes (by simp only [X.den, X.dens, X.denss, D.int_i, D.boo_b, D.str_s, D.rows_l, List.getD_cons_zero, List.getD_cons_succ, List.cons_append, List.nil_append, List.append_nil, List.length_cons, List.length_nil]; simp) ?_
                obtain ⟨_, rz, z, rfl⟩ := still_to (.i y0) (.i y1) (.i y2) (.i y3) (.i y4) (.i y5) (.i y6)
                refine To.callK (l := [z]) rz rfl _ (by simp only [List.cons_append, List.nil_append]; first | done | rfl) ?_
                refine To.callK (l := [z]) rz rfl _ (by simp only [List.cons_append, List.nil_append]; first | done | rfl) ?_
                refine To.ret ⟨rfl, ?_⟩
                simp only [X.den, X.dens, X.denss, D.int_i, D.boo_b, D.str_s, D.rows_l, List.getD_cons_zero, List.getD_cons_succ, List.cons_append, List.nil_append, List.append_nil, List.length_cons, List.length_nil, decide_true, Bool.not_true, beq_self_eq_true]
                exact ⟨_, _, _, _, _, _, _, _, rfl⟩
              rintro l ρ2 ⟨z1, z2, z3, z4, z5, z6, z7, z8, rfl⟩ eρ
              simp only [List.cons_append, List.nil_append] at eρ
              subst eρ
              refine To.no rfl ?_
              refine To.viaK (by (try simp (disch := omega) only [X.den, X.dens, X.denss, D.int_i, D.boo_b, D.str_s, D.rows_l, List.getD_cons_zero, List.getD_cons_succ, List.cons_append, List.nil_append, List.append_nil, List.length_cons, List.length_nil, decide_eq_true_eq, decide_eq_false_iff_not, Bool.not_eq_true', Bool.not_eq_false', Bool.and_eq_true, Bool.and_eq_false_iff, Bool.true_eq_false, Bool.false_eq_true, Bool.not_true, Bool.not_false, eq_self, D.len_l, wr64, not_true_eq_false, not_false_eq_true]); exact srcForce_to s7) ?_
              rintro _ ρ2 ⟨g0, g1, g2, t8, rfl, _, _, _, _, _, _, s8⟩ eρ
              refine ⟨rfl, ?_⟩
              simp only [List.cons_append, List.nil_append] at eρ
              subst eρ
              refine To.loopK (fun m l => ∃ t k : Int, l = [.l rs, .i t, .i k] ∧ SrcOk rs t ∧ 0 ≤ k ∧ k + m = 2) (fun l => ∃ t rest, l = .i 1 :: .l rs :: .i t :: rest ∧ rest.length = 95 ∧ SrcOk rs t) 2 (by omega) ?_ ?_ ?_
              · exact ⟨t8, 0, by simp only [X.den, X.dens, X.denss, D.int_i, D.boo_b, D.str_s, D.rows_l, List.getD_cons_zero, List.getD_cons_succ, List.cons_append, List.nil_append, List.append_nil, List.length_cons, List.length_nil], s8, by omega, by omega⟩
              · rintro m l ρ2 ⟨t9, k, rfl, s9, k0, k3⟩ eρ
                simp only [List.cons_append, List.nil_append] at eρ
                subst eρ
                refine To.ite (fun c => ?_) (fun c => ?_) <;> simp only [X.den, X.dens, X.denss, D.int_i, D.boo_b, D.str_s, D.rows_l, List.getD_cons_zero, List.getD_cons_succ, List.cons_append, List.nil_append, List.append_nil, List.length_cons, List.length_nil, decide_eq_true_eq, decide_eq_false_iff_not, Bool.not_eq_true', Bool.not_eq_false', Bool.and_eq_true, Bool.and_eq_false_iff, Bool.true_eq_false, Bool.false_eq_true, Bool.not_true, Bool.not_false, eq_self] at c
                · refine To.joinK (fun l => ∃ t rest, l = .i 1 :: .l rs :: .i t :: rest ∧ SrcOk rs t) ?_ ?_
                  · refine To.joinK (fun l => ∃ q0 q1 q2 : Int, l = [.i q0, .i q1, .i q2, .i q0, .i q1, .i q2]) ?_ ?_
                    · refine To.ite (fun c => To.ret ⟨rfl, _, _, _, rfl⟩) (fun c => To.ret ⟨rfl, _, _, _, rfl⟩)
                    rintro l ρ2 ⟨q0, q1, q2, rfl⟩ eρ
                    simp only [List.cons_append, List.nil_append] at eρ
                    subst eρ
                    obtain ⟨u0, u1, u2, u3, u4, u5, u6, ue, ur⟩ := vStep_ints (h0 := x0) (h1 := x1) (h2 := x2) (h3 := x3) (h4 := x4) (h5 := x5) (h6 := x6) (h7 := x7) (h8 := x8) (mass := x9) (inertia := x10) (drag := x11) (spin := x12) (m0 := y0) (m1 := y1) (m2 := y2) (m3 := y3) (m4 := y4) (m5 := y5) (m6 := y6) (f0 := q0) (f1 := q1) (f2 := q2)
                    refine To.callK (l := [.i u0, .i u1, .i u2, .i u3, .i u4, .i u5, .i u6, .i ue]) ur rfl _ (by simp only [List.cons_append, List.nil_append]; first | done | rfl) ?_
                    refine To.callK (l := [.i u0, .i u1, .i u2, .i u3, .i u4, .i u5, .i u6, .i ue]) ur rfl _ (by simp only [List.cons_append, List.nil_append]; first | done | rfl) ?_
                    refine To.joinK (fun l => l = [.b false]) ?_ ?_
                    · refine To.yes (by simp only [X.den, X.dens, X.denss, D.int_i, D.boo_b, D.str_s, D.rows_l, List.getD_cons_zero, List.getD_cons_succ, List.cons_append, List.nil_append, List.append_nil, List.length_cons, List.length_nil]; simp) (To.ret ⟨rfl, ?_⟩)
                      simp only [X.den, X.dens, X.denss, D.int_i, D.boo_b, D.str_s, D.rows_l, List.getD_cons_zero, List.getD_cons_succ, List.cons_append, List.nil_append, List.append_nil, List.length_cons, List.length_nil, decide_true, Bool.not_true]
                    rintro l ρ2 rfl eρ
                    simp only [List.cons_append, List.nil_append] at eρ
                    subst eρ
                    refine To.no rfl ?_
                    refine To.viaK (by (try simp (disch := omega) only [X.den, X.dens, X.denss, D.int_i, D.boo_b, D.str_s, D.rows_l, List.getD_cons_zero, List.getD_cons_succ, List.cons_append, List.nil_append, List.append_nil, List.length_cons, List.length_nil, decide_eq_true_eq, decide_eq_false_iff_not, Bool.not_eq_true', Bool.not_eq_false', Bool.and_eq_true, Bool.and_eq_false_iff, Bool.true_eq_false, Bool.false_eq_true, Bool.not_true, Bool.not_false, eq_self, D.len_l, wr64, not_true_eq_false, not_false_eq_true]); exact srcN_to s9 (by omega) (by omega)) ?_
                    rintro _ ρ2 ⟨nn, t10, rfl, nn0, nn1, s10⟩ eρ
                    refine ⟨rfl, ?_⟩
                    simp only [List.cons_append, List.nil_append] at eρ
                    subst eρ
                    refine To.loopK (fun m l => ∃ w0 w1 w2 w3 w4 w5 w6 w7 w8 w9 w10 w11 w12 w13 w14 w15, ∃ i : Int, l = [w0, w1, w2, w3, w4, w5, w6, w7, w8, w9, w10, w11, w12, w13, w14, w15, .i i] ∧ 0 ≤ i ∧ i + m = 2) (fun l => ∃ o1 o2 o3 o4 o5 o6 o7 o8 o9 o10 o11 o12 o13 o14 o15 o16 o17 o18 o19 o20 o21 o22 o23 o24 o25 o26 o27 o28 o29 o30 o31 o32 o33 o34 o35 o36 o37 o38 o39 o40 o41 o42 o43 o44 o45 o46 o47 o48 o49 o50 o51 o52 o53 o54 o55 o56 o57 o58 o59 o60 o61 o62 o63 o64 o65 o66 o67 o68 o69 o70 o71 o72 o73 o74 o75 o76 o77 o78 o79 o80 o81 o82 o83 o84 o85 o86 o87 o88 o89 o90 o91, l = [.i 1, o1, o2, o3, o4, o5, o6, o7, o8, o9, o10, o11, o12, o13, o14, o15, o16, o17, o18, o19, o20, o21, o22, o23, o24, o25, o26, o27, o28, o29, o30, o31, o32, o33, o34, o35, o36, o37, o38, o39, o40, o41, o42, o43, o44, o45, o46, o47, o48, o49, o50, o51, o52, o53, o54, o55, o56, o57, o58, o59, o60, o61, o62, o63, o64, o65, o66, o67, o68, o69, o70, o71, o72, o73, o74, o75, o76, o77, o78, o79, o80, o81, o82, o83, o84, o85, o86, o87, o88, o89, o90, o91]) 2 (by omega) ?_ ?_ ?_
                    · exact ⟨_, _, _, _, _, _, _, _, _, _, _, _, _, _, _, _, 0, by simp only [X.den, X.dens, X.denss, D.int_i, D.boo_b, D.str_s, D.rows_l, List.getD_cons_zero, List.getD_cons_succ, List.cons_append, List.nil_append, List.append_nil, List.length_cons, List.length_nil]; rfl, by omega, by omega⟩
                    · rintro m l ρ2 ⟨w0, w1, w2, w3, w4, w5, w6, w7, w8, w9, w10, w11, w12, w13, w14, w15, i2, rfl, i20, i21⟩ eρ
                      simp only [List.cons_append, List.nil_append] at eρ
                      subst eρ
                      refine To.ite (fun c => ?_) (fun c => ?_) <;> simp only [X.den, X.dens, X.denss, D.int_i, D.boo_b, D.str_s, D.rows_l, List.getD_cons_zero, List.getD_cons_succ, List.cons_append, List.nil_append, List.append_nil, List.length_cons, List.length_nil, decide_eq_true_eq, decide_eq_false_iff_not, Bool.not_eq_true', Bool.not_eq_false', Bool.and_eq_true, Bool.and_eq_false_iff, Bool.true_eq_false, Bool.false_eq_true, Bool.not_true, Bool.not_false, eq_self] at c
                      · refine To.joinK (fun l => ∃ q : Int, l = [.i q, .i q]) ?_ ?_
                        · refine To.ite (fun c => To.ret ⟨rfl, _, rfl⟩) (fun c => To.ret ⟨rfl, _, rfl⟩)
                        rintro l ρ2 ⟨q, rfl⟩ eρ
                        simp only [List.cons_append, List.nil_append] at eρ
                        subst eρ
                        refine To.joinK (fun l => ∃ q : Int, ∃ b : Bool, l = [.i q, .b b]) ?_ ?_
                        · refine To.joinK (fun l => ∃ b : Bool, l = [.b b]) ?_ ?_
                          · refine To.ite (fun c => To.ret ⟨rfl, _, rfl⟩) (fun c => To.ret ⟨rfl, _, rfl⟩)
                          rintro l ρ2 ⟨b, rfl⟩ eρ
                          simp only [List.cons_append, List.nil_append] at eρ
                          subst eρ
                          refine To.ite (fun c => To.ret ⟨rfl, _, _, rfl⟩) (fun c => To.ret ⟨rfl, _, _, rfl⟩)
                        rintro l ρ2 ⟨kk, bb, rfl⟩ eρ
                        simp only [List.cons_append, List.nil_append] at eρ
                        subst eρ
                        obtain ⟨v0, v1, v2, v3, v4, v5, v6, ve, vr⟩ := vRun_ex (h0 := x0) (h1 := x1) (h2 := x2) (h3 := x3) (h4 := x4) (h5 := x5) (h6 := x6) (h7 := x7) (h8 := x8) (mass := x9) (inertia := x10) (drag := x11) (spin := x12) (m0 := y0) (m1 := y1) (m2 := y2) (m3 := y3) (m4 := y4) (m5 := y5) (m6 := y6) (f0 := q0) (f1 := q1) (f2 := q2) (k := kk)
                        refine To.callK (l := [v0, v1, v2, v3, v4, v5, v6, ve]) vr rfl _ (by simp only [List.cons_append, List.nil_append]; first | done | rfl) ?_
                        refine To.callK (l := [v0, v1, v2, v3, v4, v5, v6, ve]) vr rfl _ (by simp only [List.cons_append, List.nil_append]; first | done | rfl) ?_
                        refine To.joinK (fun l => l = [.b false]) ?_ ?_
                        · refine To.yes (by simp only [X.den, X.dens, X.denss, D.int_i, D.boo_b, D.str_s, D.rows_l, List.getD_cons_zero, List.getD_cons_succ, List.cons_append, List.nil_append, List.append_nil, List.length_cons, List.length_nil]; simp) (To.ret ⟨rfl, ?_⟩)
                          simp only [X.den, X.dens, X.denss, D.int_i, D.boo_b, D.str_s, D.rows_l, List.getD_cons_zero, List.getD_cons_succ, List.cons_append, List.nil_append, List.append_nil, List.length_cons, List.length_nil, decide_true, Bool.not_true]
                        rintro l ρ2 rfl eρ
                        simp only [List.cons_append, List.nil_append] at eρ
                        subst eρ
                        refine To.no rfl ?_
                        refine To.ret (.inl ⟨rfl, m - 1, by omega, _, _, _, _, _, _, _, _, _, _, _, _, _, _, _, _, i2 + 1, by simp only [X.den, X.dens, X.denss, D.int_i, D.boo_b, D.str_s, D.rows_l, List.getD_cons_zero, List.getD_cons_succ, List.cons_append, List.nil_append, List.append_nil, List.length_cons, List.length_nil]; rfl, by omega, by omega⟩)
                      · exact To.ret (.inr ⟨rfl, _, _, _, _, _, _, _, _, _, _, _, _, _, _, _, _, _, _, _, _, _, _, _, _, _, _, _, _, _, _, _, _, _, _, _, _, _, _, _, _, _, _, _, _, _, _, _, _, _, _, _, _, _, _, _, _, _, _, _, _, _, _, _, _, _, _, _, _, _, _, _, _, _, _, _, _, _, _, _, _, _, _, _, _, _, _, _, _, _, _, _, rfl⟩)
                    rintro l ρ2 ⟨o1, o2, o3, o4, o5, o6, o7, o8, o9, o10, o11, o12, o13, o14, o15, o16, o17, o18, o19, o20, o21, o22, o23, o24, o25, o26, o27, o28, o29, o30, o31, o32, o33, o34, o35, o36, o37, o38, o39, o40, o41, o42, o43, o44, o45, o46, o47, o48, o49, o50, o51, o52, o53, o54, o55, o56, o57, o58, o59, o60, o61, o62, o63, o64, o65, o66, o67, o68, o69, o70, o71, o72, o73, o74, o75, o76, o77, o78, o79, o80, o81, o82, o83, o84, o85, o86, o87, o88, o89, o90, o91, rfl⟩ eρ
                    simp only [List.cons_append, List.nil_append] at eρ
                    subst eρ
                    exact ⟨rfl, To.no rfl (To.ret ⟨rfl, t10, _, rfl, s10⟩)⟩
                  rintro l ρ2 ⟨t11, rest, rfl, s11⟩ eρ
                  simp only [List.cons_append, List.nil_append] at eρ
                  subst eρ
                  refine To.no rfl (To.ret (.inl ⟨rfl, m - 1, by omega, t11, k + 1, ?_, s11, by omega, by omega⟩))
                  simp only [X.den, X.dens, X.denss, D.int_i, D.boo_b, D.str_s, D.rows_l, List.getD_cons_zero, List.getD_cons_succ, List.cons_append, List.nil_append, List.append_nil, List.length_cons, List.length_nil]
                · exact To.ret (.inr ⟨rfl, t9, _, rfl, rfl, s9⟩)
              rintro l ρ2 ⟨t12, rest, rfl, hr, s12⟩ eρ
              simp only [List.cons_append, List.nil_append] at eρ
              subst eρ
              exact ⟨by simp [hr], To.no rfl (To.ret ⟨rfl, t12, _, rfl, s12⟩)⟩
            rintro l ρ2 ⟨t13, rest, rfl, s13⟩ eρ
            simp only [List.cons_append, List.nil_append] at eρ
            subst eρ
            refine To.no rfl (To.ret (.inl ⟨rfl, m - 1, by omega, t13, j + 1, ?_, s13, by omega, by omega⟩))
            simp only [X.den, X.dens, X.denss, D.int_i, D.boo_b, D.str_s, D.rows_l, List.getD_cons_zero, List.getD_cons_succ, List.cons_append, List.nil_append, List.append_nil, List.length_cons, List.length_nil]
          · exact To.ret (.inr ⟨rfl, t7, _, rfl, rfl, s7⟩)
        rintro l ρ2 ⟨t14, rest, rfl, hr, s14⟩ eρ
        simp only [List.cons_append, List.nil_append] at eρ
        subst eρ
        refine ⟨by simp [hr], To.no rfl (To.ret (.inl ⟨rfl, m - 1, by omega, t14, i + 1, ?_, s14, by omega, by omega⟩))⟩
        simp only [X.den, X.dens, X.denss, D.int_i, D.boo_b, D.str_s, D.rows_l, List.getD_cons_zero, List.getD_cons_succ, List.cons_append, List.nil_append, List.append_nil, List.length_cons, List.length_nil]
      · exact To.ret (.inr ⟨rfl, _, _, _, _, _, _, _, _, _, _, _, _, _, _, _, _, _, _, _, _, _, _, rfl⟩)
    rintro l ρ2 ⟨e1, e2, e3, e4, e5, e6, e7, e8, e9, e10, e11, e12, e13, e14, e15, e16, e17, e18, e19, e20, e21, e22, rfl⟩ eρ
    simp only [List.cons_append, List.nil_append] at eρ
    subst eρ
    refine ⟨rfl, To.no rfl (To.callK (l := [.b true]) rfl rfl _ (by simp only [List.cons_append, List.nil_append]; first | done | rfl) (To.ret ?_))⟩
    simp only [X.den, X.dens, X.denss, D.int_i, D.boo_b, D.str_s, D.rows_l, List.getD_cons_zero, List.getD_cons_succ, List.cons_append, List.nil_append, List.append_nil, List.length_cons, List.length_nil]
def VesselExact_ps : List PK := vExact_K.ps
theorem VesselExact_all : Fx.LawOk Try.prog 8 VesselExact_ps :=
  law_all ve_ok rfl (by kernel_rfl) fun ds hw => by
    have hw' : WfR [.sl [.int .i64], .int .i64, .int .i64, .int .i64, .int .i64, .int .i64, .int .i64, .int .i64, .int .i64, .int .i64, .int .i64, .int .i64] ds := hw
    simp only [WfR, WfC] at hw'
    obtain ⟨d0, ds0, rfl, ⟨rows, rfl, _, _⟩, d1, ds1, rfl, ⟨z1, rfl, _⟩, d2, ds2, rfl, ⟨z2, rfl, _⟩, d3, ds3, rfl, ⟨z3, rfl, _⟩, d4, ds4, rfl, ⟨z4, rfl, w4⟩, d5, ds5, rfl, ⟨z5, rfl, _⟩, d6, ds6, rfl, ⟨z6, rfl, _⟩, d7, ds7, rfl, ⟨z7, rfl, _⟩, d8, ds8, rfl, ⟨z8, rfl, _⟩, d9, ds9, rfl, ⟨z9, rfl, _⟩, d10, ds10, rfl, ⟨z10, rfl, _⟩, d11, ds11, rfl, ⟨z11, rfl, _⟩, rfl⟩ := hw'
    exact if_pos (wf64 w4)
end Go.Proofs.Ytdkamfkpmplaoaa
