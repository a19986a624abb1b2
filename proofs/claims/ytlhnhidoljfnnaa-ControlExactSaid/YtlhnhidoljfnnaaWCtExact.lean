/- ControlExact. -/
import Derived.Test.YtlhnhidoljfnnaaCtL
set_option linter.unusedVariables false
set_option linter.unusedSimpArgs false
namespace Go.Proofs.Ytlhnhidoljfnnaa
open Go.RowKit Fx
def ctxM : Models := (Models.on srcN_K.f (srcN_T.run noM 0) (Models.on srcGains_K.f (srcGains_T.run srcM 0) (Models.on srcKeeper_K.f (srcKeeper_T.run srcM 0) (Models.on srcPoint_K.f (srcPoint_T.run srcM 0) (Models.on srcAng_K.f (srcAng_T.run srcM 0) (Models.on sane24_K.f (fun _ => some [.b true]) (Models.on pChk_K.f (CKm) (Models.on pVal_K.f (VDm) (Models.on pBod_K.f (BDm) (Models.on pSig_K.f (F1 sg) (Models.on pDem_K.f (pDem_T.run pdM 30) (Models.on rChk_K.f (CKm) (Models.on rVal_K.f (VDm) (Models.on rBod_K.f (BDm) (Models.on rSig_K.f (F1 sg) (Models.on rDem_K.f (rDem_T.run rdM 30) noM))))))))))))))))
theorem ck_to {g0 g1 g2 g3 g4 g5 g6 g7 g8 : Int} : ∃ l, CKm [.i g0, .i g1, .i g2, .i g3, .i g4, .i g5, .i g6, .i g7, .i g8] = some l ∧ l = [.i (ck g0 g1 g2 g3 g4 g5 g6 g7 g8)] := ⟨_, rfl, rfl⟩
theorem vd_to {g0 g1 g2 g3 g4 g5 g6 g7 g8 sx sy sh lx ly lh : Int} {sn1 : Bool} : ∃ l, VDm [.i g0, .i g1, .i g2, .i g3, .i g4, .i g5, .i g6, .i g7, .i g8, .i sx, .i sy, .i sh, .i lx, .i ly, .i lh, .b sn1] = some l ∧ l = [.b (vd g0 g1 g2 g3 g4 g5 g6 g7 g8 sx sy sh lx ly lh)] := ⟨_, rfl, rfl⟩
theorem bd_to {x y tx ty h : Int} : ∃ l, BDm [.i x, .i y, .i tx, .i ty, .i h] = some l ∧ l = [.i (bdA x y tx ty h), .i (bdB x y tx ty h)] := ⟨_, rfl, rfl⟩
theorem sg_to {a : Int} : ∃ l, F1 sg [.i a] = some l ∧ l = [.i (sg a)] := ⟨_, rfl, rfl⟩
theorem dem_both {g0 g1 g2 g3 g4 g5 g6 g7 g8 sx sy sh lx ly lh x y h tx ty th : Int} {sn1 : Bool} : ∃ (a1 a2 a3 a4 a5 a6 a7 a8 a9 : Int) (b1 : Bool) (e1 : Int), (∃ o, pDem_T.run pdM 30 [.i g0, .i g1, .i g2, .i g3, .i g4, .i g5, .i g6, .i g7, .i g8, .i sx, .i sy, .i sh, .i lx, .i ly, .i lh, .b sn1, .i x, .i y, .i h, .i tx, .i ty, .i th] = some o ∧ o = [.i a1, .i a2, .i a3, .i a4, .i a5, .i a6, .i a7, .i a8, .i a9, .b b1, .i e1]) ∧ ∃ o, rDem_T.run rdM 30 [.i g0, .i g1, .i g2, .i g3, .i g4, .i g5, .i g6, .i g7, .i g8, .i sx, .i sy, .i sh, .i lx, .i ly, .i lh, .b sn1, .i x, .i y, .i h, .i tx, .i ty, .i th] = some o ∧ o = [.i a1, .i a2, .i a3, .i a4, .i a5, .i a6, .i a7, .i a8, .i a9, .b b1, .i e1] := by
  obtain ⟨a1, a2, a3, a4, a5, a6, a7, a8, a9, b1, e1, hs⟩ := @dmO_shape g0 g1 g2 g3 g4 g5 g6 g7 g8 sx sy sh lx ly lh x y h tx ty th sn1
  refine ⟨a1, a2, a3, a4, a5, a6, a7, a8, a9, b1, e1, ?_, ?_⟩
  · rw [← hs]; exact pdem_full
  · rw [← hs]; exact rdem_full
theorem src_take24 {rows : List (List D)} : SrcOk (rows.take (min (min (rows.length : Int) 9223372036854775807) 600).toNat) 0 := ⟨by omega, by omega, by rw [List.length_take]; omega⟩
def ctxR : List D → Option (List D) := fun ds => match ds with
  | [.l _, .i _, .i _, .i _, .i _, .i _, .i _, .i _, .i _, .i _, .i _, .i _, .i _, .i _, .i _, .i _, .b _, .i _, .i _, .i _, .i _, .i _, .i _] => some [.b true]
  | _ => none
set_option maxHeartbeats 8000000 in
theorem ControlExact_ok : ConOk Try.prog ctExa_K ctxR :=
  con_of follows (M := ctxM) (one_con (srcN_ok.to _) (one_con (srcGains_ok.to _) (one_con (srcKeeper_ok.to _) (one_con (srcPoint_ok.to _) (one_con (srcAng_ok.to _) (one_con (sane24_ok.to _) (one_con (pChk_ok.to _) (one_con (pVal_ok.to _) (one_con (pBod_ok.to _) (one_con (pSig_ok.to _) (one_con (pDem_ok.to _) (one_con (rChk_ok.to _) (one_con (rVal_ok.to _) (one_con (rBod_ok.to _) (one_con (rSig_ok.to _) (one_con (rDem_ok.to _) no_cons)))))))))))))))) ctExa_t fun ds outs hl h => by
    unfold ctxR at h
    split at h
    · rename_i rows r0 r1 r2 r3 r4 r5 r6 r7 r8 q0 q1 q2 q3 q4 q5 qs px py hd ux uy uh
      injection h with h
      subst h
      refine ⟨fun i l h k => by simp [ctExa_K] at k, 30, ?_⟩
      unfold ctExa_T
      refine To.ite (fun c => ?_) (fun c => ?_) <;> simp only [X.den, X.dens, X.denss, D.int_i, D.boo_b, D.str_s, D.rows_l, List.getD_cons_zero, List.getD_cons_succ, List.cons_append, List.nil_append, List.append_nil, List.length_cons, List.length_nil, decide_eq_true_eq, decide_eq_false_iff_not, Bool.not_eq_true', Bool.not_eq_false', Bool.and_eq_true, Bool.and_eq_false_iff, Bool.true_eq_false, Bool.false_eq_true, Bool.not_true, Bool.not_false, eq_self, D.len_l] at c
      · refine To.callK (l := [.b true]) rfl rfl _ (by simp only [List.cons_append, List.nil_append]; first | done | rfl) ?_
        exact To.ret (by simp only [X.den, X.dens, X.denss, D.int_i, D.boo_b, D.str_s, D.rows_l, List.getD_cons_zero, List.getD_cons_succ, List.cons_append, List.nil_append, List.append_nil, List.length_cons, List.length_nil])
      refine To.need (by simp only [X.den, X.dens, X.denss, D.int_i, D.boo_b, D.str_s, D.rows_l, List.getD_cons_zero, List.getD_cons_succ, List.cons_append, List.nil_append, List.append_nil, List.length_cons, List.length_nil, decide_eq_true_eq, decide_eq_false_iff_not, Bool.not_eq_true', Bool.not_eq_false', Bool.and_eq_true, Bool.and_eq_false_iff, Bool.true_eq_false, Bool.false_eq_true, Bool.not_true, Bool.not_false, eq_self, D.len_l]; omega) ?_
      refine To.viaK (by (try simp (disch := omega) only [X.den, X.dens, X.denss, D.int_i, D.boo_b, D.str_s, D.rows_l, List.getD_cons_zero, List.getD_cons_succ, List.cons_append, List.nil_append, List.append_nil, List.length_cons, List.length_nil, decide_eq_true_eq, decide_eq_false_iff_not, Bool.not_eq_true', Bool.not_eq_false', Bool.and_eq_true, Bool.and_eq_false_iff, Bool.true_eq_false, Bool.false_eq_true, Bool.not_true, Bool.not_false, eq_self, D.len_l, wr64, not_true_eq_false, not_false_eq_true]); exact srcGains_to src_take24) ?_
      rintro _ ρ2 ⟨g0, g1, g2, g3, g4, g5, g6, g7, g8, t1, rfl, -, -, -, -, -, -, -, -, -, -, -, -, m0, m1, -, -, -, -, h1⟩ eρ
      refine ⟨rfl, ?_⟩
      simp only [List.cons_append, List.nil_append] at eρ
      subst eρ
      generalize List.take (min (min (rows.length : Int) 9223372036854775807) 600).toNat rows = src at *
      refine To.viaK (by (try simp (disch := omega) only [X.den, X.dens, X.denss, D.int_i, D.boo_b, D.str_s, D.rows_l, List.getD_cons_zero, List.getD_cons_succ, List.cons_append, List.nil_append, List.append_nil, List.length_cons, List.length_nil, decide_eq_true_eq, decide_eq_false_iff_not, Bool.not_eq_true', Bool.not_eq_false', Bool.and_eq_true, Bool.and_eq_false_iff, Bool.true_eq_false, Bool.false_eq_true, Bool.not_true, Bool.not_false, eq_self, D.len_l, wr64, not_true_eq_false, not_false_eq_true]); exact srcKeeper_to h1 m0 m1) ?_
      rintro _ ρ2 ⟨sx, sy, sh, lx, ly, lh, sn1, t2, rfl, -, -, -, -, -, -, -, -, -, -, -, -, h2⟩ eρ
      refine ⟨rfl, ?_⟩
      simp only [List.cons_append, List.nil_append] at eρ
      subst eρ
      refine To.viaK (by (try simp (disch := omega) only [X.den, X.dens, X.denss, D.int_i, D.boo_b, D.str_s, D.rows_l, List.getD_cons_zero, List.getD_cons_succ, List.cons_append, List.nil_append, List.append_nil, List.length_cons, List.length_nil, decide_eq_true_eq, decide_eq_false_iff_not, Bool.not_eq_true', Bool.not_eq_false', Bool.and_eq_true, Bool.and_eq_false_iff, Bool.true_eq_false, Bool.false_eq_true, Bool.not_true, Bool.not_false, eq_self, D.len_l, wr64, not_true_eq_false, not_false_eq_true]); exact srcPoint_to h2) ?_
      rintro _ ρ2 ⟨zx, zy, t3, rfl, -, -, -, -, h3⟩ eρ
      refine ⟨rfl, ?_⟩
      simp only [List.cons_append, List.nil_append] at eρ
      subst eρ
      refine To.viaK (by (try simp (disch := omega) only [X.den, X.dens, X.denss, D.int_i, D.boo_b, D.str_s, D.rows_l, List.getD_cons_zero, List.getD_cons_succ, List.cons_append, List.nil_append, List.append_nil, List.length_cons, List.length_nil, decide_eq_true_eq, decide_eq_false_iff_not, Bool.not_eq_true', Bool.not_eq_false', Bool.and_eq_true, Bool.and_eq_false_iff, Bool.true_eq_false, Bool.false_eq_true, Bool.not_true, Bool.not_false, eq_self, D.len_l, wr64, not_true_eq_false, not_false_eq_true]); exact srcAng_to h3) ?_
      rintro _ ρ2 ⟨zh, t4, rfl, h4⟩ eρ
      refine ⟨rfl, ?_⟩
      simp only [List.cons_append, List.nil_append] at eρ
      subst eρ
      refine To.loopK (fun m o => ∃ at_ k : Int, o = [.l src, .i at_, .i k] ∧ SrcOk src at_ ∧ 0 ≤ k ∧ k + m = 2) (fun o => ∃ rest : List D, o = .i 1 :: rest ∧ rest.length = 11) 2 (by omega) ?_ ?_ ?_
      · exact ⟨t4, 0, by simp only [X.den, X.dens, X.denss, D.int_i, D.boo_b, D.str_s, D.rows_l, List.getD_cons_zero, List.getD_cons_succ, List.cons_append, List.nil_append, List.append_nil, List.length_cons, List.length_nil], h4, by omega, by omega⟩
      · rintro m o ρ2 ⟨s1, k1, rfl, j1, b1, b2⟩ eρ
        simp only [List.cons_append, List.nil_append] at eρ
        subst eρ
        refine To.ite (fun c1 => ?_) (fun c1 => ?_) <;> simp only [X.den, X.dens, X.denss, D.int_i, D.boo_b, D.str_s, D.rows_l, List.getD_cons_zero, List.getD_cons_succ, List.cons_append, List.nil_append, List.append_nil, List.length_cons, List.length_nil, decide_eq_true_eq, decide_eq_false_iff_not, Bool.not_eq_true', Bool.not_eq_false', Bool.and_eq_true, Bool.and_eq_false_iff, Bool.true_eq_false, Bool.false_eq_true, Bool.not_true, Bool.not_false, eq_self] at c1
        · refine To.joinK (fun o => ∃ (at_ : Int) (rest : List D), o = .i 0 :: .l src :: .i at_ :: rest ∧ rest.length = 41 ∧ SrcOk src at_) ?_ ?_
          · refine To.joinK (fun o => ∃ w0 w1 w2 w3 w4 w5 w6 w7 w8 : Int, o = [.i w0, .i w1, .i w2, .i w3, .i w4, .i w5, .i w6, .i w7, .i w8, .i w0, .i w1, .i w2, .i w3, .i w4, .i w5, .i w6, .i w7, .i w8]) ?_ ?_
            · refine To.ite (fun c => ?_) (fun c => ?_)
              · exact To.ret ⟨rfl, g0, g1, g2, g3, g4, g5, g6, g7, g8, by simp only [X.den, X.dens, X.denss, D.int_i, D.boo_b, D.str_s, D.rows_l, List.getD_cons_zero, List.getD_cons_succ, List.cons_append, List.nil_append, List.append_nil, List.length_cons, List.length_nil]⟩
              · exact To.ret ⟨rfl, r0, r1, r2, r3, r4, r5, r6, r7, r8, by simp only [X.den, X.dens, X.denss, D.int_i, D.boo_b, D.str_s, D.rows_l, List.getD_cons_zero, List.getD_cons_succ, List.cons_append, List.nil_append, List.append_nil, List.length_cons, List.length_nil]⟩
            rintro o ρ2 ⟨w0, w1, w2, w3, w4, w5, w6, w7, w8, rfl⟩ eρ
            simp only [List.cons_append, List.nil_append] at eρ
            subst eρ
            refine To.viaK (by (try simp (disch := omega) only [X.den, X.dens, X.denss, D.int_i, D.boo_b, D.str_s, D.rows_l, List.getD_cons_zero, List.getD_cons_succ, List.cons_append, List.nil_append, List.append_nil, List.length_cons, List.length_nil, decide_eq_true_eq, decide_eq_false_iff_not, Bool.not_eq_true', Bool.not_eq_false', Bool.and_eq_true, Bool.and_eq_false_iff, Bool.true_eq_false, Bool.false_eq_true, Bool.not_true, Bool.not_false, eq_self, D.len_l, wr64, not_true_eq_false, not_false_eq_true]); exact ck_to) ?_
            rintro _ ρ2 rfl eρ
            refine ⟨rfl, ?_⟩
            simp only [List.cons_append, List.nil_append] at eρ
            subst eρ
            refine To.viaK (by (try simp (disch := omega) only [X.den, X.dens, X.denss, D.int_i, D.boo_b, D.str_s, D.rows_l, List.getD_cons_zero, List.getD_cons_succ, List.cons_append, List.nil_append, List.append_nil, List.length_cons, List.length_nil, decide_eq_true_eq, decide_eq_false_iff_not, Bool.not_eq_true', Bool.not_eq_false', Bool.and_eq_true, Bool.and_eq_false_iff, Bool.true_eq_false, Bool.false_eq_true, Bool.not_true, Bool.not_false, eq_self, D.len_l, wr64, not_true_eq_false, not_false_eq_true]); exact ck_to) ?_
            rintro _ ρ2 rfl eρ
            refine ⟨rfl, ?_⟩
            simp only [List.cons_append, List.nil_append] at eρ
            subst eρ
            refine To.yes (by simp only [X.den, X.dens, X.denss, D.int_i, D.boo_b, D.str_s, D.rows_l, List.getD_cons_zero, List.getD_cons_succ, List.cons_append, List.nil_append, List.append_nil, List.length_cons, List.length_nil]; simp) ?_
            refine To.loopK (fun m o => ∃ at_ k : Int, o = [.l src, .i at_, .i k] ∧ SrcOk src at_ ∧ 0 ≤ k ∧ k + m = 2) (fun o => ∃ (at_ : Int) (rest : List D), o = .i 1 :: .l src :: .i at_ :: rest ∧ rest.length = 33 ∧ SrcOk src at_) 2 (by omega) ?_ ?_ ?_
            · exact ⟨s1, 0, by simp only [X.den, X.dens, X.denss, D.int_i, D.boo_b, D.str_s, D.rows_l, List.getD_cons_zero, List.getD_cons_succ, List.cons_append, List.nil_append, List.append_nil, List.length_cons, List.length_nil], j1, by omega, by omega⟩
            · rintro n o ρ2 ⟨s2, k2, rfl, j2, b3, b4⟩ eρ
              simp only [List.cons_append, List.nil_append] at eρ
              subst eρ
              refine To.ite (fun c2 => ?_) (fun c2 => ?_) <;> simp only [X.den, X.dens, X.denss, D.int_i, D.boo_b, D.str_s, D.rows_l, List.getD_cons_zero, List.getD_cons_succ, List.cons_append, List.nil_append, List.append_nil, List.length_cons, List.length_nil, decide_eq_true_eq, decide_eq_false_iff_not, Bool.not_eq_true', Bool.not_eq_false', Bool.and_eq_true, Bool.and_eq_false_iff, Bool.true_eq_false, Bool.false_eq_true, Bool.not_true, Bool.not_false, eq_self] at c2
              · refine To.joinK (fun o => ∃ (at_ : Int) (rest : List D), o = .i 0 :: .l src :: .i at_ :: rest ∧ rest.length = 33 ∧ SrcOk src at_) ?_ ?_
                · refine To.joinK (fun o => ∃ (y0 y1 y2 y3 y4 y5 : Int) (yb : Bool), o = [.i y0, .i y1, .i y2, .i y3, .i y4, .i y5, .b yb, .i y0, .i y1, .i y2, .i y3, .i y4, .i y5, .b yb]) ?_ ?_
                  · refine To.ite (fun c => ?_) (fun c => ?_)
                    · exact To.ret ⟨rfl, sx, sy, sh, lx, ly, lh, sn1, by simp only [X.den, X.dens, X.denss, D.int_i, D.boo_b, D.str_s, D.rows_l, List.getD_cons_zero, List.getD_cons_succ, List.cons_append, List.nil_append, List.append_nil, List.length_cons, List.length_nil]⟩
                    · exact To.ret ⟨rfl, q0, q1, q2, q3, q4, q5, qs, by simp only [X.den, X.dens, X.denss, D.int_i, D.boo_b, D.str_s, D.rows_l, List.getD_cons_zero, List.getD_cons_succ, List.cons_append, List.nil_append, List.append_nil, List.length_cons, List.length_nil]⟩
                  rintro o ρ2 ⟨y0, y1, y2, y3, y4, y5, yb, rfl⟩ eρ
                  simp only [List.cons_append, List.nil_append] at eρ
                  subst eρ
                  refine To.viaK (by (try simp (disch := omega) only [X.den, X.dens, X.denss, D.int_i, D.boo_b, D.str_s, D.rows_l, List.getD_cons_zero, List.getD_cons_succ, List.cons_append, List.nil_append, List.append_nil, List.length_cons, List.length_nil, decide_eq_true_eq, decide_eq_false_iff_not, Bool.not_eq_true', Bool.not_eq_false', Bool.and_eq_true, Bool.and_eq_false_iff, Bool.true_eq_false, Bool.false_eq_true, Bool.not_true, Bool.not_false, eq_self, D.len_l, wr64, not_true_eq_false, not_false_eq_true]); exact vd_to) ?_
                  rintro _ ρ2 rfl eρ
                  refine ⟨rfl, ?_⟩
                  simp only [List.cons_append, List.nil_append] at eρ
                  subst eρ
                  refine To.viaK (by (try simp (disch := omega) only [X.den, X.dens, X.denss, D.int_i, D.boo_b, D.str_s, D.rows_l, List.getD_cons_zero, List.getD_cons_succ, List.cons_append, List.nil_append, List.append_nil, List.length_cons, List.length_nil, decide_eq_true_eq, decide_eq_false_iff_not, Bool.not_eq_true', Bool.not_eq_false', Bool.and_eq_true, Bool.and_eq_false_iff, Bool.true_eq_false, Bool.false_eq_true, Bool.not_true, Bool.not_false, eq_self, D.len_l, wr64, not_true_eq_false, not_false_eq_true]); exact vd_to) ?_
                  rintro _ ρ2 rfl eρ
                  refine ⟨rfl, ?_⟩
                  simp only [List.cons_append, List.nil_append] at eρ
                  subst eρ
                  refine To.yes (by simp only [X.den, X.dens, X.denss, D.int_i, D.boo_b, D.str_s, D.rows_l, List.getD_cons_zero, List.getD_cons_succ, List.cons_append, List.nil_append, List.append_nil, List.length_cons, List.length_nil]; simp) ?_
                  refine To.loopK (fun m o => ∃ at_ k : Int, o = [.l src, .i at_, .i k] ∧ SrcOk src at_ ∧ 0 ≤ k ∧ k + m = 2) (fun o => ∃ (at_ : Int) (rest : List D), o = .i 1 :: .l src :: .i at_ :: rest ∧ rest.length = 135 ∧ SrcOk src at_) 2 (by omega) ?_ ?_ ?_
                  · exact ⟨s2, 0, by simp only [X.den, X.dens, X.denss, D.int_i, D.boo_b, D.str_s, D.rows_l, List.getD_cons_zero, List.getD_cons_succ, List.cons_append, List.nil_append, List.append_nil, List.length_cons, List.length_nil], j2, by omega, by omega⟩
                  · rintro i o ρ2 ⟨s3, k3, rfl, j3, b5, b6⟩ eρ
                    simp only [List.cons_append, List.nil_append] at eρ
                    subst eρ
                    refine To.ite (fun c3 => ?_) (fun c3 => ?_) <;> simp only [X.den, X.dens, X.denss, D.int_i, D.boo_b, D.str_s, D.rows_l, List.getD_cons_zero, List.getD_cons_succ, List.cons_append, List.nil_append, List.append_nil, List.length_cons, List.length_nil, decide_eq_true_eq, decide_eq_false_iff_not, Bool.not_eq_true', Bool.not_eq_false', Bool.and_eq_true, Bool.and_eq_false_iff, Bool.true_eq_false, Bool.false_eq_true, Bool.not_true, Bool.not_false, eq_self] at c3
                    · refine To.joinK (fun o => ∃ v0 v1 v2 : Int, o = [.i v0, .i v1, .i v2, .i v0, .i v1, .i v2]) ?_ ?_
                      · refine To.ite (fun c => ?_) (fun c => ?_)
                        · exact To.ret ⟨rfl, zx, zy, zh, by simp only [X.den, X.dens, X.denss, D.int_i, D.boo_b, D.str_s, D.rows_l, List.getD_cons_zero, List.getD_cons_succ, List.cons_append, List.nil_append, List.append_nil, List.length_cons, List.length_nil]⟩
                        · exact To.ret ⟨rfl, ux, uy, uh, by simp only [X.den, X.dens, X.denss, D.int_i, D.boo_b, D.str_s, D.rows_l, List.getD_cons_zero, List.getD_cons_succ, List.cons_append, List.nil_append, List.append_nil, List.length_cons, List.length_nil]⟩
                      rintro o ρ2 ⟨v0, v1, v2, rfl⟩ eρ
                      simp only [List.cons_append, List.nil_append] at eρ
                      subst eρ
                      refine To.viaK (by (try simp (disch := omega) only [X.den, X.dens, X.denss, D.int_i, D.boo_b, D.str_s, D.rows_l, List.getD_cons_zero, List.getD_cons_succ, List.cons_append, List.nil_append, List.append_nil, List.length_cons, List.length_nil, decide_eq_true_eq, decide_eq_false_iff_not, Bool.not_eq_true', Bool.not_eq_false', Bool.and_eq_true, Bool.and_eq_false_iff, Bool.true_eq_false, Bool.false_eq_true, Bool.not_true, Bool.not_false, eq_self, D.len_l, wr64, not_true_eq_false, not_false_eq_true]); exact srcN_to j3 (by omega) (by omega)) ?_
                      rintro _ ρ2 ⟨nh, s4, rfl, p4, q4, j4⟩ eρ
                      refine ⟨rfl, ?_⟩
                      simp only [List.cons_append, List.nil_append] at eρ
                      subst eρ
                      refine To.loopK (fun m o => ∃ at_ k : Int, o = [.l src, .i at_, .i k] ∧ SrcOk src at_ ∧ 0 ≤ k ∧ k + m = 2) (fun o => ∃ (at_ : Int) (rest : List D), o = .i 1 :: .l src :: .i at_ :: rest ∧ rest.length = 119 ∧ SrcOk src at_) 2 (by omega) ?_ ?_ ?_
                      · exact ⟨s4, 0, by simp only [X.den, X.dens, X.denss, D.int_i, D.boo_b, D.str_s, D.rows_l, List.getD_cons_zero, List.getD_cons_succ, List.cons_append, List.nil_append, List.append_nil, List.length_cons, List.length_nil], j4, by omega, by omega⟩
                      · rintro f o ρ2 ⟨s5, k5, rfl, j5, b7, b8⟩ eρ
                        simp only [List.cons_append, List.nil_append] at eρ
                        subst eρ
                        refine To.ite (fun c4 => ?_) (fun c4 => ?_) <;> simp only [X.den, X.dens, X.denss, D.int_i, D.boo_b, D.str_s, D.rows_l, List.getD_cons_zero, List.getD_cons_succ, List.cons_append, List.nil_append, List.append_nil, List.length_cons, List.length_nil, decide_eq_true_eq, decide_eq_false_iff_not, Bool.not_eq_true', Bool.not_eq_false', Bool.and_eq_true, Bool.and_eq_false_iff, Bool.true_eq_false, Bool.false_eq_true, Bool.not_true, Bool.not_false, eq_self] at c4
                        · refine To.joinK (fun o => ∃ a : Int, o = [.i a, .i a]) ?_ ?_
                          · refine To.ite (fun c => ?_) (fun c => ?_)
                            · exact To.ret ⟨rfl, hd, by simp only [X.den, X.dens, X.denss, D.int_i, D.boo_b, D.str_s, D.rows_l, List.getD_cons_zero, List.getD_cons_succ, List.cons_append, List.nil_append, List.append_nil, List.length_cons, List.length_nil]⟩
                            · exact To.ret ⟨rfl, nh, by simp only [X.den, X.dens, X.denss, D.int_i, D.boo_b, D.str_s, D.rows_l, List.getD_cons_zero, List.getD_cons_succ, List.cons_append, List.nil_append, List.append_nil, List.length_cons, List.length_nil]⟩
                          rintro o ρ2 ⟨an, rfl⟩ eρ
                          simp only [List.cons_append, List.nil_append] at eρ
                          subst eρ
                          refine To.viaK (by (try simp (disch := omega) only [X.den, X.dens, X.denss, D.int_i, D.boo_b, D.str_s, D.rows_l, List.getD_cons_zero, List.getD_cons_succ, List.cons_append, List.nil_append, List.append_nil, List.length_cons, List.length_nil, decide_eq_true_eq, decide_eq_false_iff_not, Bool.not_eq_true', Bool.not_eq_false', Bool.and_eq_true, Bool.and_eq_false_iff, Bool.true_eq_false, Bool.false_eq_true, Bool.not_true, Bool.not_false, eq_self, D.len_l, wr64, not_true_eq_false, not_false_eq_true]); exact srcPoint_to j5) ?_
                          rintro _ ρ2 ⟨nx, ny, s6, rfl, -, -, -, -, j6⟩ eρ
                          refine ⟨rfl, ?_⟩
                          simp only [List.cons_append, List.nil_append] at eρ
                          subst eρ
                          refine To.loopK (fun m o => ∃ k : Int, o = [.i k] ∧ 0 ≤ k ∧ k + m = 2) (fun o => ∃ rest : List D, o = .i 1 :: rest ∧ rest.length = 109) 2 (by omega) ?_ ?_ ?_
                          · exact ⟨0, by simp only [X.den, X.dens, X.denss, D.int_i, D.boo_b, D.str_s, D.rows_l, List.getD_cons_zero, List.getD_cons_succ, List.cons_append, List.nil_append, List.append_nil, List.length_cons, List.length_nil], by omega, by omega⟩
                          · rintro d o ρ2 ⟨k7, rfl, b9, b10⟩ eρ
                            simp only [List.cons_append, List.nil_append] at eρ
                            subst eρ
                            refine To.ite (fun c5 => ?_) (fun c5 => ?_) <;> simp only [X.den, X.dens, X.denss, D.int_i, D.boo_b, D.str_s, D.rows_l, List.getD_cons_zero, List.getD_cons_succ, List.cons_append, List.nil_append, List.append_nil, List.length_cons, List.length_nil, decide_eq_true_eq, decide_eq_false_iff_not, Bool.not_eq_true', Bool.not_eq_false', Bool.and_eq_true, Bool.and_eq_false_iff, Bool.true_eq_false, Bool.false_eq_true, Bool.not_true, Bool.not_false, eq_self] at c5
                            · refine To.joinK (fun o => ∃ rest : List D, o = .i 1 :: rest ∧ rest.length = 134) ?_ ?_
                              · refine To.joinK (fun o => ∃ a b : Int, o = [.i a, .i b, .i a, .i b]) ?_ ?_
                                · refine To.ite (fun c => ?_) (fun c => ?_)
                                  · exact To.ret ⟨rfl, px, py, by simp only [X.den, X.dens, X.denss, D.int_i, D.boo_b, D.str_s, D.rows_l, List.getD_cons_zero, List.getD_cons_succ, List.cons_append, List.nil_append, List.append_nil, List.length_cons, List.length_nil]⟩
                                  · exact To.ret ⟨rfl, nx, ny, by simp only [X.den, X.dens, X.denss, D.int_i, D.boo_b, D.str_s, D.rows_l, List.getD_cons_zero, List.getD_cons_succ, List.cons_append, List.nil_append, List.append_nil, List.length_cons, List.length_nil]⟩
                                rintro o ρ2 ⟨mx, my, rfl⟩ eρ
                                simp only [List.cons_append, List.nil_append] at eρ
                                subst eρ
                                obtain ⟨a1, a2, a3, a4, a5, a6, a7, a8, a9, eb, ee, hp, hr⟩ := @dem_both w0 w1 w2 w3 w4 w5 w6 w7 w8 y0 y1 y2 y3 y4 y5 mx my an v0 v1 v2 yb
                                refine To.viaK (by (try simp (disch := omega) only [X.den, X.dens, X.denss, D.int_i, D.boo_b, D.str_s, D.rows_l, List.getD_cons_zero, List.getD_cons_succ, List.cons_append, List.nil_append, List.append_nil, List.length_cons, List.length_nil, decide_eq_true_eq, decide_eq_false_iff_not, Bool.not_eq_true', Bool.not_eq_false', Bool.and_eq_true, Bool.and_eq_false_iff, Bool.true_eq_false, Bool.false_eq_true, Bool.not_true, Bool.not_false, eq_self, D.len_l, wr64, not_true_eq_false, not_false_eq_true]); exact hp) ?_
                                rintro _ ρ2 rfl eρ
                                refine ⟨rfl, ?_⟩
                                simp only [List.cons_append, List.nil_append] at eρ
                                subst eρ
                                refine To.viaK (by (try simp (disch := omega) only [X.den, X.dens, X.denss, D.int_i, D.boo_b, D.str_s, D.rows_l, List.getD_cons_zero, List.getD_cons_succ, List.cons_append, List.nil_append, List.append_nil, List.length_cons, List.length_nil, decide_eq_true_eq, decide_eq_false_iff_not, Bool.not_eq_true', Bool.not_eq_false', Bool.and_eq_true, Bool.and_eq_false_iff, Bool.true_eq_false, Bool.false_eq_true, Bool.not_true, Bool.not_false, eq_self, D.len_l, wr64, not_true_eq_false, not_false_eq_true]); exact hr) ?_
                                rintro _ ρ2 rfl eρ
                                refine ⟨rfl, ?_⟩
                                simp only [List.cons_append, List.nil_append] at eρ
                                subst eρ
                                refine To.joinK (fun o => o = [.b false, .b false, .b false]) ?_ ?_
                                · refine To.yes (by simp only [X.den, X.dens, X.denss, D.int_i, D.boo_b, D.str_s, D.rows_l, List.getD_cons_zero, List.getD_cons_succ, List.cons_append, List.nil_append, List.append_nil, List.length_cons, List.length_nil]; simp) (To.yes (by simp only [X.den, X.dens, X.denss, D.int_i, D.boo_b, D.str_s, D.rows_l, List.getD_cons_zero, List.getD_cons_succ, List.cons_append, List.nil_append, List.append_nil, List.length_cons, List.length_nil]; simp) (To.ret ⟨rfl, ?_⟩))
                                  simp only [X.den, X.dens, X.denss, D.int_i, D.boo_b, D.str_s, D.rows_l, List.getD_cons_zero, List.getD_cons_succ, List.cons_append, List.nil_append, List.append_nil, List.length_cons, List.length_nil]
                                  simp
                                rintro o ρ2 rfl eρ
                                simp only [List.cons_append, List.nil_append] at eρ
                                subst eρ
                                refine To.no rfl ?_
                                refine To.viaK (by (try simp (disch := omega) only [X.den, X.dens, X.denss, D.int_i, D.boo_b, D.str_s, D.rows_l, List.getD_cons_zero, List.getD_cons_succ, List.cons_append, List.nil_append, List.append_nil, List.length_cons, List.length_nil, decide_eq_true_eq, decide_eq_false_iff_not, Bool.not_eq_true', Bool.not_eq_false', Bool.and_eq_true, Bool.and_eq_false_iff, Bool.true_eq_false, Bool.false_eq_true, Bool.not_true, Bool.not_false, eq_self, D.len_l, wr64, not_true_eq_false, not_false_eq_true]); exact bd_to) ?_
                                rintro _ ρ2 rfl eρ
                                refine ⟨rfl, ?_⟩
                                simp only [List.cons_append, List.nil_append] at eρ
                                subst eρ
                                refine To.viaK (by (try simp (disch := omega) only [X.den, X.dens, X.denss, D.int_i, D.boo_b, D.str_s, D.rows_l, List.getD_cons_zero, List.getD_cons_succ, List.cons_append, List.nil_append, List.append_nil, List.length_cons, List.length_nil, decide_eq_true_eq, decide_eq_false_iff_not, Bool.not_eq_true', Bool.not_eq_false', Bool.and_eq_true, Bool.and_eq_false_iff, Bool.true_eq_false, Bool.false_eq_true, Bool.not_true, Bool.not_false, eq_self, D.len_l, wr64, not_true_eq_false, not_false_eq_true]); exact bd_to) ?_
                                rintro _ ρ2 rfl eρ
                                refine ⟨rfl, ?_⟩
                                simp only [List.cons_append, List.nil_append] at eρ
                                subst eρ
                                refine To.joinK (fun o => o = [.b false, .b false, .b false]) ?_ ?_
                                · refine To.yes (by simp only [X.den, X.dens, X.denss, D.int_i, D.boo_b, D.str_s, D.rows_l, List.getD_cons_zero, List.getD_cons_succ, List.cons_append, List.nil_append, List.append_nil, List.length_cons, List.length_nil]; simp) (To.yes (by simp only [X.den, X.dens, X.denss, D.int_i, D.boo_b, D.str_s, D.rows_l, List.getD_cons_zero, List.getD_cons_succ, List.cons_append, List.nil_append, List.append_nil, List.length_cons, List.length_nil]; simp) ?_)
                                  refine To.viaK (by (try simp (disch := omega) only [X.den, X.dens, X.denss, D.int_i, D.boo_b, D.str_s, D.rows_l, List.getD_cons_zero, List.getD_cons_succ, List.cons_append, List.nil_append, List.append_nil, List.length_cons, List.length_nil, decide_eq_true_eq, decide_eq_false_iff_not, Bool.not_eq_true', Bool.not_eq_false', Bool.and_eq_true, Bool.and_eq_false_iff, Bool.true_eq_false, Bool.false_eq_true, Bool.not_true, Bool.not_false, eq_self, D.len_l, wr64, not_true_eq_false, not_false_eq_true]); exact sg_to) ?_
                                  rintro _ ρ2 rfl eρ
                                  refine ⟨rfl, ?_⟩
                                  simp only [List.cons_append, List.nil_append] at eρ
                                  subst eρ
                                  refine To.viaK (by (try simp (disch := omega) only [X.den, X.dens, X.denss, D.int_i, D.boo_b, D.str_s, D.rows_l, List.getD_cons_zero, List.getD_cons_succ, List.cons_append, List.nil_append, List.append_nil, List.length_cons, List.length_nil, decide_eq_true_eq, decide_eq_false_iff_not, Bool.not_eq_true', Bool.not_eq_false', Bool.and_eq_true, Bool.and_eq_false_iff, Bool.true_eq_false, Bool.false_eq_true, Bool.not_true, Bool.not_false, eq_self, D.len_l, wr64, not_true_eq_false, not_false_eq_true]); exact sg_to) ?_
                                  rintro _ ρ2 rfl eρ
                                  refine ⟨rfl, ?_⟩
                                  simp only [List.cons_append, List.nil_append] at eρ
                                  subst eρ
                                  refine To.ret ⟨rfl, ?_⟩
                                  simp only [X.den, X.dens, X.denss, D.int_i, D.boo_b, D.str_s, D.rows_l, List.getD_cons_zero, List.getD_cons_succ, List.cons_append, List.nil_append, List.append_nil, List.length_cons, List.length_nil]
                                  simp
                                rintro o ρ2 rfl eρ
                                simp only [List.cons_append, List.nil_append] at eρ
                                subst eρ
                                refine To.no rfl ?_
                                exact To.ret ⟨rfl, _, rfl, rfl⟩
                              · rintro o ρ2 ⟨rest, rfl, hr⟩ eρ
                                simp only [List.cons_append, List.nil_append] at eρ
                                subst eρ
                                refine To.no rfl (To.ret (.inl ⟨rfl, d - 1, by omega, k7 + 1, ?_, by omega, by omega⟩))
                                simp only [X.den, X.dens, X.denss, D.int_i, D.boo_b, D.str_s, D.rows_l, List.getD_cons_zero, List.getD_cons_succ, List.cons_append, List.nil_append, List.append_nil, List.length_cons, List.length_nil]
                            · exact To.ret (.inr ⟨rfl, _, rfl, rfl⟩)
                          · rintro o ρ2 ⟨rest, rfl, hr⟩ eρ
                            simp only [List.cons_append, List.nil_append] at eρ
                            subst eρ
                            refine ⟨by simp [hr], To.no rfl (To.ret (.inl ⟨rfl, f - 1, by omega, s6, k5 + 1, ?_, j6, by omega, by omega⟩))⟩
                            simp only [X.den, X.dens, X.denss, D.int_i, D.boo_b, D.str_s, D.rows_l, List.getD_cons_zero, List.getD_cons_succ, List.cons_append, List.nil_append, List.append_nil, List.length_cons, List.length_nil]
                        · exact To.ret (.inr ⟨rfl, s5, _, rfl, rfl, j5⟩)
                      · rintro o ρ2 ⟨s8, rest, rfl, hr, j8⟩ eρ
                        simp only [List.cons_append, List.nil_append] at eρ
                        subst eρ
                        refine ⟨by simp [hr], To.no rfl (To.ret (.inl ⟨rfl, i - 1, by omega, s8, k3 + 1, ?_, j8, by omega, by omega⟩))⟩
                        simp only [X.den, X.dens, X.denss, D.int_i, D.boo_b, D.str_s, D.rows_l, List.getD_cons_zero, List.getD_cons_succ, List.cons_append, List.nil_append, List.append_nil, List.length_cons, List.length_nil]
                    · exact To.ret (.inr ⟨rfl, s3, _, rfl, rfl, j3⟩)
                  · rintro o ρ2 ⟨s9, rest, rfl, hr, j9⟩ eρ
                    simp only [List.cons_append, List.nil_append] at eρ
                    subst eρ
                    exact ⟨by simp [hr], To.no rfl (To.ret ⟨rfl, s9, _, rfl, rfl, j9⟩)⟩
                · rintro o ρ2 ⟨s9, rest, rfl, hr, j9⟩ eρ
                  simp only [List.cons_append, List.nil_append] at eρ
                  subst eρ
                  refine To.yes rfl (To.ret (.inl ⟨rfl, n - 1, by omega, s9, k2 + 1, ?_, j9, by omega, by omega⟩))
                  simp only [X.den, X.dens, X.denss, D.int_i, D.boo_b, D.str_s, D.rows_l, List.getD_cons_zero, List.getD_cons_succ, List.cons_append, List.nil_append, List.append_nil, List.length_cons, List.length_nil]
              · exact To.ret (.inr ⟨rfl, s2, _, rfl, rfl, j2⟩)
            · rintro o ρ2 ⟨s9, rest, rfl, hr, j9⟩ eρ
              simp only [List.cons_append, List.nil_append] at eρ
              subst eρ
              exact ⟨by simp [hr], To.no rfl (To.ret ⟨rfl, s9, _, rfl, rfl, j9⟩)⟩
          · rintro o ρ2 ⟨s9, rest, rfl, hr, j9⟩ eρ
            simp only [List.cons_append, List.nil_append] at eρ
            subst eρ
            refine To.yes rfl (To.ret (.inl ⟨rfl, m - 1, by omega, s9, k1 + 1, ?_, j9, by omega, by omega⟩))
            simp only [X.den, X.dens, X.denss, D.int_i, D.boo_b, D.str_s, D.rows_l, List.getD_cons_zero, List.getD_cons_succ, List.cons_append, List.nil_append, List.append_nil, List.length_cons, List.length_nil]
        · exact To.ret (.inr ⟨rfl, _, rfl, rfl⟩)
      · rintro o ρ2 ⟨rest, rfl, hr⟩ eρ
        simp only [List.cons_append, List.nil_append] at eρ
        subst eρ
        refine ⟨by simp [hr], To.no rfl ?_⟩
        refine To.callK (l := [.b true]) rfl rfl _ rfl (To.ret ?_)
        match rest, hr with
        | [x0, x1, x2, x3, x4, x5, x6, x7, x8, x9, x10], _ => simp only [X.den, X.dens, X.denss, D.int_i, D.boo_b, D.str_s, D.rows_l, List.getD_cons_zero, List.getD_cons_succ, List.cons_append, List.nil_append, List.append_nil, List.length_cons, List.length_nil]
    · cases h
def ControlExact_ps : List PK := ctExa_K.ps
theorem ControlExact_all : Fx.LawOk Try.prog 11 ControlExact_ps :=
  law_all ControlExact_ok rfl (by kernel_rfl) fun ds hw => by
    have hw' : WfR [.sl [.int .i64], .int .i64, .int .i64, .int .i64, .int .i64, .int .i64, .int .i64, .int .i64, .int .i64, .int .i64, .int .i64, .int .i64, .int .i64, .int .i64, .int .i64, .int .i64, .bool, .int .i64, .int .i64, .int .i64, .int .i64, .int .i64, .int .i64] ds := hw
    simp only [WfR, WfC] at hw'
    obtain ⟨d0, ds0, rfl, ⟨r0, rfl, _, _⟩, d1, ds1, rfl, ⟨z1, rfl, _⟩, d2, ds2, rfl, ⟨z2, rfl, _⟩, d3, ds3, rfl, ⟨z3, rfl, _⟩, d4, ds4, rfl, ⟨z4, rfl, _⟩, d5, ds5, rfl, ⟨z5, rfl, _⟩, d6, ds6, rfl, ⟨z6, rfl, _⟩, d7, ds7, rfl, ⟨z7, rfl, _⟩, d8, ds8, rfl, ⟨z8, rfl, _⟩, d9, ds9, rfl, ⟨z9, rfl, _⟩, d10, ds10, rfl, ⟨z10, rfl, _⟩, d11, ds11, rfl, ⟨z11, rfl, _⟩, d12, ds12, rfl, ⟨z12, rfl, _⟩, d13, ds13, rfl, ⟨z13, rfl, _⟩, d14, ds14, rfl, ⟨z14, rfl, _⟩, d15, ds15, rfl, ⟨z15, rfl, _⟩, d16, ds16, rfl, ⟨z16, rfl⟩, d17, ds17, rfl, ⟨z17, rfl, _⟩, d18, ds18, rfl, ⟨z18, rfl, _⟩, d19, ds19, rfl, ⟨z19, rfl, _⟩, d20, ds20, rfl, ⟨z20, rfl, _⟩, d21, ds21, rfl, ⟨z21, rfl, _⟩, d22, ds22, rfl, ⟨z22, rfl, _⟩, rfl⟩ := hw'
    rfl
end Go.Proofs.Ytlhnhidoljfnnaa
