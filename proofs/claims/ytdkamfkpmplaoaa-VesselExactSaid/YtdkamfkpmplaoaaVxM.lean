/- VesselExact: steps and runs in full; a bent hull in numbers; a run of any length. -/
import Derived.Test.YtdkamfkpmplaoaaVx
import Derived.Test.YtdkamfkpmplaoaaVxS
set_option linter.unusedVariables false
set_option linter.unusedSimpArgs false
namespace Go.Proofs.Ytdkamfkpmplaoaa
open Go.RowKit Fx
noncomputable def stW : List D → Option (List D) := fun ds => match ds with
  | [h0, h1, h2, h3, h4, h5, h6, h7, h8, .i mass, .i inertia, .i drag, .i spin, .i m0, .i m1, .i m2, .i m3, .i m4, .i m5, .i m6, .i f0, .i f1, .i f2] => vStep_T.run vsM 0 [h0, h1, h2, h3, h4, h5, h6, h7, h8, .i mass, .i inertia, .i drag, .i spin, .i m0, .i m1, .i m2, .i m3, .i m4, .i m5, .i m6, .i f0, .i f1, .i f2]
  | _ => none
theorem xStep_ok : ConOk Try.prog vStep_K stW := con_sub vStep_ok fun ds outs h => by
  unfold stW at h
  split at h
  · exact h
  · cases h
noncomputable def ysM : Models := Models.on rwCheck_K.f (wCheck_T.run wcM 0) (Models.on yvV_K.f vlM (Models.on yvH_K.f hdM (Models.on rwRound_K.f rndM (Models.on rSin_K.f (F1 sn) (Models.on rCos_K.f (F1 cs) noM)))))
set_option maxHeartbeats 4000000 in
theorem yStep_ok : ConOk Try.prog yStep_K stW := con_tot follows (M := ysM) (one_con (rwCheck_ok.to _) (one_con (yvV_ok.to _) (one_con (yvH_ok.to _) (one_con (rwRound_ok.to _) (one_con (rSin_ok.to _) (one_con (rCos_ok.to _) no_cons)))))) yStep_t rfl 0 fun ds outs hlen h => by
  unfold stW at h
  split at h
  case h_2 => cases h
  rename_i h0 h1 h2 h3 h4 h5 h6 h7 h8 mass inertia drag spin m0 m1 m2 m3 m4 m5 m6 f0 f1 f2
  clear hlen
  obtain ⟨_, rc, e, rfl, he⟩ := wCheck_to h0 h1 h2 h3 h4 h5 h6 h7 h8 (.i mass) (.i inertia) (.i drag) (.i spin)
  unfold yStep_T
  refine To.callK (l := [.i e]) rc rfl _ (by simp only [List.cons_append, List.nil_append]; first | done | rfl) ?_
  by_cases e0 : e = 0
  case neg =>
    rw [vStep_err (vCheck_hull rc e0) e0] at h
    injection h with h
    subst h
    refine To.no (by simp only [X.den, X.dens, X.denss, D.int_i, D.boo_b, D.str_s, D.rows_l, List.getD_cons_zero, List.getD_cons_succ, List.cons_append, List.nil_append, List.append_nil, List.length_cons, List.length_nil]; exact decide_eq_false e0) (To.ret ?_)
    simp only [X.den, X.dens, X.denss, D.int_i, D.boo_b, D.str_s, D.rows_l, List.getD_cons_zero, List.getD_cons_succ, List.cons_append, List.nil_append, List.append_nil, List.length_cons, List.length_nil, zero8]
  subst e0
  have hu := he.1 rfl
  refine To.yes rfl ?_
  by_cases mo : MoI m0 m1 m2 m3 m4 m5 m6
  case neg =>
    rw [vStep_err (vCheck_mot rc mo) (by decide)] at h
    injection h with h
    subst h
    refine To.callK (l := [.b false]) (congrArg (fun b => some [D.b b]) (vlB_f mo)) rfl _ (by simp only [List.cons_append, List.nil_append]; first | done | rfl) ?_
    exact To.no rfl (To.ret (by simp only [X.den, X.dens, X.denss, D.int_i, D.boo_b, D.str_s, D.rows_l, List.getD_cons_zero, List.getD_cons_succ, List.cons_append, List.nil_append, List.append_nil, List.length_cons, List.length_nil, zero8]))
  refine To.callK (l := [.b true]) (congrArg (fun b => some [D.b b]) (vlB_t mo)) rfl _ (by simp only [List.cons_append, List.nil_append]; first | done | rfl) ?_
  refine To.yes rfl ?_
  by_cases fr : FrI f0 f1 f2
  case neg =>
    rw [vStep_err (vCheck_frc rc mo fr) (by decide)] at h
    injection h with h
    subst h
    clear hu he rc mo
    simp only [FrI, FrcOk, D.int_i] at fr
    refine To.joinK (fun l => l = [.b true]) ?_ ?_
    · (repeat' (first
          
          | (refine To.subK (fun K hK => ?_))
          | (refine To.need (by simp (disch := omega) only [X.den, X.dens, X.denss, D.int_i, D.boo_b, D.str_s, D.rows_l, List.getD_cons_zero, List.getD_cons_succ, List.cons_append, List.nil_append, List.append_nil, List.length_cons, List.length_nil, decide_eq_true_eq, decide_eq_false_iff_not, Bool.not_eq_true', Bool.not_eq_false', Bool.and_eq_true, Bool.and_eq_false_iff, Bool.true_eq_false, Bool.false_eq_true, Bool.not_true, Bool.not_false, eq_self, D.len_l, wr64, not_true_eq_false, not_false_eq_true] <;> omega) ?_)
          | (refine To.ite (fun c => ?_) (fun c => ?_) <;> ((try simp (disch := omega) only [X.den, X.dens, X.denss, D.int_i, D.boo_b, D.str_s, D.rows_l, List.getD_cons_zero, List.getD_cons_succ, List.cons_append, List.nil_append, List.append_nil, List.length_cons, List.length_nil, decide_eq_true_eq, decide_eq_false_iff_not, Bool.not_eq_true', Bool.not_eq_false', Bool.and_eq_true, Bool.and_eq_false_iff, Bool.true_eq_false, Bool.false_eq_true, Bool.not_true, Bool.not_false, eq_self, D.len_l, wr64, not_true_eq_false, not_false_eq_true] at c) <;> (try (exfalso; omega))))
          | (refine To.ret ⟨rfl, ?_⟩; (try simp (disch := omega) only [X.den, X.dens, X.denss, D.int_i, D.boo_b, D.str_s, D.rows_l, List.getD_cons_zero, List.getD_cons_succ, List.cons_append, List.nil_append, List.append_nil, List.length_cons, List.length_nil, decide_eq_true_eq, decide_eq_false_iff_not, Bool.not_eq_true', Bool.not_eq_false', Bool.and_eq_true, Bool.and_eq_false_iff, Bool.true_eq_false, Bool.false_eq_true, Bool.not_true, Bool.not_false, eq_self, D.len_l, wr64, not_true_eq_false, not_false_eq_true]); refine hK _ _ (by simp only [List.cons_append, List.nil_append]; first | done | rfl) ?_; clear hK; clear K)))
      all_goals (refine To.ret ⟨rfl, ?_⟩; simp only [X.den, X.dens, X.denss, D.int_i, D.boo_b, D.str_s, D.rows_l, List.getD_cons_zero, List.getD_cons_succ, List.cons_append, List.nil_append, List.append_nil, List.length_cons, List.length_nil]; first | done | (congr 2; done) | (congr 2; simp only [Bool.not_not, decide_eq_true_eq]; first | done | omega))
    rintro l ρ2 rfl eρ
    simp only [List.cons_append, List.nil_append] at eρ
    subst eρ
    exact To.yes rfl (To.ret (by simp only [X.den, X.dens, X.denss, D.int_i, D.boo_b, D.str_s, D.rows_l, List.getD_cons_zero, List.getD_cons_succ, List.cons_append, List.nil_append, List.append_nil, List.length_cons, List.length_nil, zero8]))
  obtain ⟨l, r, hA, hB⟩ := vStep_eq hu mo fr (sin_eq _) (cos_eq _) (sn_rng _).1 (sn_rng _).2 (cs_rng _).1 (cs_rng _).2
  rw [r] at h
  injection h with h
  subst h
  clear r he rc
  unfold HullOk at hu
  simp only [MoI, MotOk, FrI, FrcOk, D.int_i] at hu mo fr
  obtain ⟨_, _, _, _, _, _, _, _, _, u1, u2, u3, u4, u5, u6, u7, u8⟩ := hu
  have p1 := mul_abs (x := drag) (y := m4) (a := 1000000) (b := 100000) (by omega) (by omega) (by omega) (by omega)
  have p2 := mul_abs (x := drag) (y := m5) (a := 1000000) (b := 100000) (by omega) (by omega) (by omega) (by omega)
  have p3 := mul_abs (x := spin) (y := m6) (a := 1073741824) (b := 10000) (by omega) (by omega) (by omega) (by omega)
  have n1 := hdv_rng (n := 10000 * f0 - drag * m4) (d := mass) (a := 110000000000) u1 (by omega) (by omega)
  have n2 := hdv_rng (n := 10000 * f1 - drag * m5) (d := mass) (a := 110000000000) u1 (by omega) (by omega)
  have n3 := hdv_rng (n := 10000 * f2 - spin * m6) (d := inertia) (a := 10747418240000) u3 (by omega) (by omega)
  obtain ⟨s, es⟩ : ∃ s, spd f0 m4 drag mass = s := ⟨_, rfl⟩
  obtain ⟨v, ev⟩ : ∃ s, spd f1 m5 drag mass = s := ⟨_, rfl⟩
  obtain ⟨t, et⟩ : ∃ s, spd f2 m6 spin inertia = s := ⟨_, rfl⟩
  rw [es, ev, et] at hA hB
  have es' : m4 + hdv (10000 * f0 - drag * m4) mass = s := es
  have ev' : m5 + hdv (10000 * f1 - drag * m5) mass = v := ev
  have et' : m6 + hdv (10000 * f2 - spin * m6) inertia = t := et
  have w1 : IntKind.i64.wrap (m4 + hdv (10000 * f0 - drag * m4) mass) = s := by rw [wr64 (by omega) (by omega)]; exact es
  have w2 : IntKind.i64.wrap (m5 + hdv (10000 * f1 - drag * m5) mass) = v := by rw [wr64 (by omega) (by omega)]; exact ev
  have w3 : IntKind.i64.wrap (m6 + hdv (10000 * f2 - spin * m6) inertia) = t := by rw [wr64 (by omega) (by omega)]; exact et
  have w4 : IntKind.i64.wrap (m3 + t) = m3 + t := wr64 (by omega) (by omega)
  have w5 : IntKind.i64.wrap (m0 + 1) = m0 + 1 := wr64 (by omega) (by omega)
  refine To.joinK (fun l => l = [.b false]) ?_ ?_
  · (repeat' (first
        
        | (refine To.subK (fun K hK => ?_))
        | (refine To.need (by simp (disch := omega) only [X.den, X.dens, X.denss, D.int_i, D.boo_b, D.str_s, D.rows_l, List.getD_cons_zero, List.getD_cons_succ, List.cons_append, List.nil_append, List.append_nil, List.length_cons, List.length_nil, decide_eq_true_eq, decide_eq_false_iff_not, Bool.not_eq_true', Bool.not_eq_false', Bool.and_eq_true, Bool.and_eq_false_iff, Bool.true_eq_false, Bool.false_eq_true, Bool.not_true, Bool.not_false, eq_self, D.len_l, wr64, not_true_eq_false, not_false_eq_true] <;> omega) ?_)
        | (refine To.ite (fun c => ?_) (fun c => ?_) <;> ((try simp (disch := omega) only [X.den, X.dens, X.denss, D.int_i, D.boo_b, D.str_s, D.rows_l, List.getD_cons_zero, List.getD_cons_succ, List.cons_append, List.nil_append, List.append_nil, List.length_cons, List.length_nil, decide_eq_true_eq, decide_eq_false_iff_not, Bool.not_eq_true', Bool.not_eq_false', Bool.and_eq_true, Bool.and_eq_false_iff, Bool.true_eq_false, Bool.false_eq_true, Bool.not_true, Bool.not_false, eq_self, D.len_l, wr64, not_true_eq_false, not_false_eq_true] at c) <;> (try (exfalso; omega))))
        | (refine To.ret ⟨rfl, ?_⟩; (try simp (disch := omega) only [X.den, X.dens, X.denss, D.int_i, D.boo_b, D.str_s, D.rows_l, List.getD_cons_zero, List.getD_cons_succ, List.cons_append, List.nil_append, List.append_nil, List.length_cons, List.length_nil, decide_eq_true_eq, decide_eq_false_iff_not, Bool.not_eq_true', Bool.not_eq_false', Bool.and_eq_true, Bool.and_eq_false_iff, Bool.true_eq_false, Bool.false_eq_true, Bool.not_true, Bool.not_false, eq_self, D.len_l, wr64, not_true_eq_false, not_false_eq_true]); refine hK _ _ (by simp only [List.cons_append, List.nil_append]; first | done | rfl) ?_; clear hK; clear K)))
    all_goals (refine To.ret ⟨rfl, ?_⟩; simp only [X.den, X.dens, X.denss, D.int_i, D.boo_b, D.str_s, D.rows_l, List.getD_cons_zero, List.getD_cons_succ, List.cons_append, List.nil_append, List.append_nil, List.length_cons, List.length_nil]; first | done | (congr 2; done) | (congr 2; simp only [Bool.not_not, decide_eq_false_iff_not]; first | done | omega))
  rintro l ρ2 rfl eρ
  simp only [List.cons_append, List.nil_append] at eρ
  subst eρ
  refine To.no rfl ?_
  refine To.viaK (by (try simp (disch := omega) only [X.den, X.dens, X.denss, D.int_i, D.boo_b, D.str_s, D.rows_l, List.getD_cons_zero, List.getD_cons_succ, List.cons_append, List.nil_append, List.append_nil, List.length_cons, List.length_nil, decide_eq_true_eq, decide_eq_false_iff_not, Bool.not_eq_true', Bool.not_eq_false', Bool.and_eq_true, Bool.and_eq_false_iff, Bool.true_eq_false, Bool.false_eq_true, Bool.not_true, Bool.not_false, eq_self, D.len_l, wr64, not_true_eq_false, not_false_eq_true]); exact rnd_to (n := 10000 * f0 - drag * m4) (d := mass) (by omega) (by omega) (by omega) (by omega)) ?_
  rintro _ ρ2 rfl eρ
  refine ⟨rfl, ?_⟩
  simp only [List.cons_append, List.nil_append] at eρ
  subst eρ
  refine To.viaK (by (try simp (disch := omega) only [X.den, X.dens, X.denss, D.int_i, D.boo_b, D.str_s, D.rows_l, List.getD_cons_zero, List.getD_cons_succ, List.cons_append, List.nil_append, List.append_nil, List.length_cons, List.length_nil, decide_eq_true_eq, decide_eq_false_iff_not, Bool.not_eq_true', Bool.not_eq_false', Bool.and_eq_true, Bool.and_eq_false_iff, Bool.true_eq_false, Bool.false_eq_true, Bool.not_true, Bool.not_false, eq_self, D.len_l, wr64, not_true_eq_false, not_false_eq_true]); exact rnd_to (n := 10000 * f1 - drag * m5) (d := mass) (by omega) (by omega) (by omega) (by omega)) ?_
  rintro _ ρ2 rfl eρ
  refine ⟨rfl, ?_⟩
  simp only [List.cons_append, List.nil_append] at eρ
  subst eρ
  refine To.viaK (by (try simp (disch := omega) only [X.den, X.dens, X.denss, D.int_i, D.boo_b, D.str_s, D.rows_l, List.getD_cons_zero, List.getD_cons_succ, List.cons_append, List.nil_append, List.append_nil, List.length_cons, List.length_nil, decide_eq_true_eq, decide_eq_false_iff_not, Bool.not_eq_true', Bool.not_eq_false', Bool.and_eq_true, Bool.and_eq_false_iff, Bool.true_eq_false, Bool.false_eq_true, Bool.not_true, Bool.not_false, eq_self, D.len_l, wr64, not_true_eq_false, not_false_eq_true]); exact rnd_to (n := 10000 * f2 - spin * m6) (d := inertia) (by omega) (by omega) (by omega) (by omega)) ?_
  rintro _ ρ2 rfl eρ
  refine ⟨rfl, ?_⟩
  simp only [List.cons_append, List.nil_append] at eρ
  subst eρ
  refine To.joinK (fun l => l = [.i ((m3 + t) % 360000)]) ?_ ?_
  · have k := (tdiv_down (n := m3 + t) (d := 360000) (by decide)).2
    refine To.ite (fun c => ?_) (fun c => ?_) <;> simp only [X.den, X.dens, X.denss, D.int_i, D.boo_b, D.str_s, D.rows_l, List.getD_cons_zero, List.getD_cons_succ, List.cons_append, List.nil_append, List.append_nil, List.length_cons, List.length_nil, decide_eq_true_eq, decide_eq_false_iff_not, Bool.not_eq_true', Bool.not_eq_false', Bool.and_eq_true, Bool.and_eq_false_iff, Bool.true_eq_false, Bool.false_eq_true, Bool.not_true, Bool.not_false, eq_self, w3, w4] at c
    · rw [if_pos c] at k
      exact To.ret ⟨rfl, by simp only [X.den, X.dens, X.denss, D.int_i, D.boo_b, D.str_s, D.rows_l, List.getD_cons_zero, List.getD_cons_succ, List.cons_append, List.nil_append, List.append_nil, List.length_cons, List.length_nil, w3, w4, k]⟩
    · rw [if_neg c] at k
      exact To.ret ⟨rfl, by simp only [X.den, X.dens, X.denss, D.int_i, D.boo_b, D.str_s, D.rows_l, List.getD_cons_zero, List.getD_cons_succ, List.cons_append, List.nil_append, List.append_nil, List.length_cons, List.length_nil, w3, w4, k]⟩
  rintro l ρ2 rfl eρ
  simp only [List.cons_append, List.nil_append] at eρ
  subst eρ
  have c0 := Int.emod_nonneg (m3 + t) (show (360000 : Int) ≠ 0 by decide)
  have c1 := Int.emod_lt_of_pos (m3 + t) (show (0 : Int) < 360000 by decide)
  generalize hc : (m3 + t) % 360000 = c at *
  obtain ⟨a, ea⟩ : ∃ a, c / 100 = a := ⟨_, rfl⟩
  rw [ea] at hA hB
  have eh : c % 360000 / 100 = a := by rw [← ea]; omega
  have sr := sn_rng a
  have cr := cs_rng a
  have q1 := mul_abs (x := s) (y := cs a) (a := 110000100000) (b := 10000) (by omega) (by omega) cr.1 cr.2
  have q2 := mul_abs (x := v) (y := sn a) (a := 110000100000) (b := 10000) (by omega) (by omega) sr.1 sr.2
  have q3 := mul_abs (x := s) (y := sn a) (a := 110000100000) (b := 10000) (by omega) (by omega) sr.1 sr.2
  have q4 := mul_abs (x := v) (y := cs a) (a := 110000100000) (b := 10000) (by omega) (by omega) cr.1 cr.2
  have z1 := hdv_rng (n := s * cs a - v * sn a) (d := 10000) (a := 2200002000000000) (by decide) (by omega) (by omega)
  have z2 := hdv_rng (n := s * sn a + v * cs a) (d := 10000) (a := 2200002000000000) (by decide) (by omega) (by omega)
  refine To.viaK (by (try simp (disch := omega) only [X.den, X.dens, X.denss, D.int_i, D.boo_b, D.str_s, D.rows_l, List.getD_cons_zero, List.getD_cons_succ, List.cons_append, List.nil_append, List.append_nil, List.length_cons, List.length_nil, decide_eq_true_eq, decide_eq_false_iff_not, Bool.not_eq_true', Bool.not_eq_false', Bool.and_eq_true, Bool.and_eq_false_iff, Bool.true_eq_false, Bool.false_eq_true, Bool.not_true, Bool.not_false, eq_self, D.len_l, wr64, not_true_eq_false, not_false_eq_true]); exact hd_to (n := c) rfl (by omega) (by omega)) ?_
  rintro _ ρ2 rfl eρ
  refine ⟨rfl, ?_⟩
  simp only [List.cons_append, List.nil_append] at eρ
  subst eρ
  rw [eh]
  refine To.callK (l := [.i (cs a)]) rfl rfl _ (by simp only [List.cons_append, List.nil_append]; first | done | rfl) ?_
  refine To.callK (l := [.i (sn a)]) rfl rfl _ (by simp only [List.cons_append, List.nil_append]; first | done | rfl) ?_
  refine To.viaK (by (try simp (disch := omega) only [X.den, X.dens, X.denss, D.int_i, D.boo_b, D.str_s, D.rows_l, List.getD_cons_zero, List.getD_cons_succ, List.cons_append, List.nil_append, List.append_nil, List.length_cons, List.length_nil, decide_eq_true_eq, decide_eq_false_iff_not, Bool.not_eq_true', Bool.not_eq_false', Bool.and_eq_true, Bool.and_eq_false_iff, Bool.true_eq_false, Bool.false_eq_true, Bool.not_true, Bool.not_false, eq_self, D.len_l, wr64, not_true_eq_false, not_false_eq_true, w1, w2]); exact rnd_to (n := s * cs a - v * sn a) (d := 10000) (by omega) (by omega) (by omega) (by omega)) ?_
  rintro _ ρ2 rfl eρ
  refine ⟨rfl, ?_⟩
  simp only [List.cons_append, List.nil_append] at eρ
  subst eρ
  refine To.callK (l := [.i (sn a)]) rfl rfl _ (by simp only [List.cons_append, List.nil_append]; first | done | rfl) ?_
  refine To.callK (l := [.i (cs a)]) rfl rfl _ (by simp only [List.cons_append, List.nil_append]; first | done | rfl) ?_
  refine To.viaK (by (try simp (disch := omega) only [X.den, X.dens, X.denss, D.int_i, D.boo_b, D.str_s, D.rows_l, List.getD_cons_zero, List.getD_cons_succ, List.cons_append, List.nil_append, List.append_nil, List.length_cons, List.length_nil, decide_eq_true_eq, decide_eq_false_iff_not, Bool.not_eq_true', Bool.not_eq_false', Bool.and_eq_true, Bool.and_eq_false_iff, Bool.true_eq_false, Bool.false_eq_true, Bool.not_true, Bool.not_false, eq_self, D.len_l, wr64, not_true_eq_false, not_false_eq_true, w1, w2]); exact rnd_to (n := s * sn a + v * cs a) (d := 10000) (by omega) (by omega) (by omega) (by omega)) ?_
  rintro _ ρ2 rfl eρ
  refine ⟨rfl, ?_⟩
  simp only [List.cons_append, List.nil_append] at eρ
  subst eρ
  have w6 : IntKind.i64.wrap (m1 + hdv (s * cs a - v * sn a) 10000) = m1 + hdv (s * cs a - v * sn a) 10000 := wr64 (by omega) (by omega)
  have w7 : IntKind.i64.wrap (m2 + hdv (s * sn a + v * cs a) 10000) = m2 + hdv (s * sn a + v * cs a) 10000 := wr64 (by omega) (by omega)
  by_cases ok : MoI (m0 + 1) (m1 + hdv (s * cs a - v * sn a) 10000) (m2 + hdv (s * sn a + v * cs a) 10000) c s v t
  · refine To.callK (l := [.b true]) (by show vlM _ = _; simp only [X.den, X.dens, X.denss, D.int_i, D.boo_b, D.str_s, D.rows_l, List.getD_cons_zero, List.getD_cons_succ, List.cons_append, List.nil_append, List.append_nil, List.length_cons, List.length_nil, vlM, ia, w1, w2, w3, w5, w6, w7]; rw [vlB_t ok]) rfl _ (by simp only [List.cons_append, List.nil_append]; first | done | rfl) ?_
    refine To.yes rfl (To.ret ?_)
    simp only [MoI, MotOk, D.int_i] at ok
    simp only [X.den, X.dens, X.denss, D.int_i, D.boo_b, D.str_s, D.rows_l, List.getD_cons_zero, List.getD_cons_succ, List.cons_append, List.nil_append, List.append_nil, List.length_cons, List.length_nil, w1, w2, w3, w5, w6, w7]
    rw [hA (by omega)]
  · refine To.callK (l := [.b false]) (by show vlM _ = _; simp only [X.den, X.dens, X.denss, D.int_i, D.boo_b, D.str_s, D.rows_l, List.getD_cons_zero, List.getD_cons_succ, List.cons_append, List.nil_append, List.append_nil, List.length_cons, List.length_nil, vlM, ia, w1, w2, w3, w5, w6, w7]; rw [vlB_f ok]) rfl _ (by simp only [List.cons_append, List.nil_append]; first | done | rfl) ?_
    refine To.no rfl (To.ret ?_)
    simp only [MoI, MotOk, D.int_i] at ok
    simp only [X.den, X.dens, X.denss, D.int_i, D.boo_b, D.str_s, D.rows_l, List.getD_cons_zero, List.getD_cons_succ, List.cons_append, List.nil_append, List.append_nil, List.length_cons, List.length_nil]
    rw [hB (by omega)]
end Go.Proofs.Ytdkamfkpmplaoaa
namespace Go.Proofs.Ytdkamfkpmplaoaa
open Go.RowKit Fx
theorem vStep_ints {h0 h1 h2 h3 h4 h5 h6 h7 h8 : D} {mass inertia drag spin m0 m1 m2 m3 m4 m5 m6 f0 f1 f2 : Int} : ∃ n0 n1 n2 n3 n4 n5 n6 e : Int, vStep_T.run vsM 0 [h0, h1, h2, h3, h4, h5, h6, h7, h8, .i mass, .i inertia, .i drag, .i spin, .i m0, .i m1, .i m2, .i m3, .i m4, .i m5, .i m6, .i f0, .i f1, .i f2] = some [.i n0, .i n1, .i n2, .i n3, .i n4, .i n5, .i n6, .i e] := by
  obtain ⟨_, rc, e, rfl, he⟩ := wCheck_to h0 h1 h2 h3 h4 h5 h6 h7 h8 (.i mass) (.i inertia) (.i drag) (.i spin)
  by_cases e0 : e = 0
  case neg => exact ⟨_, _, _, _, _, _, _, _, vStep_err (vCheck_hull rc e0) e0⟩
  subst e0
  by_cases mo : MoI m0 m1 m2 m3 m4 m5 m6
  case neg => exact ⟨_, _, _, _, _, _, _, _, vStep_err (vCheck_mot rc mo) (by decide)⟩
  by_cases fr : FrI f0 f1 f2
  case neg => exact ⟨_, _, _, _, _, _, _, _, vStep_err (vCheck_frc rc mo fr) (by decide)⟩
  obtain ⟨l, r, hA, hB⟩ := vStep_eq (he.1 rfl) mo fr (sin_eq _) (cos_eq _) (sn_rng _).1 (sn_rng _).2 (cs_rng _).1 (cs_rng _).2
  exact Classical.byContradiction fun hn => hn ⟨_, _, _, _, _, _, _, _, r.trans (congrArg some (hB fun ok => hn ⟨_, _, _, _, _, _, _, _, r.trans (congrArg some (hA ok))⟩))⟩
theorem vRun_lim {h0 h1 h2 h3 h4 h5 h6 h7 h8 : D} {mass inertia drag spin m0 m1 m2 m3 m4 m5 m6 f0 f1 f2 : Int} {k : Int} (hk : ¬ (0 ≤ k ∧ k ≤ 400)) : vRun_T.run vrM 500 [h0, h1, h2, h3, h4, h5, h6, h7, h8, .i mass, .i inertia, .i drag, .i spin, .i m0, .i m1, .i m2, .i m3, .i m4, .i m5, .i m6, .i f0, .i f1, .i f2, .i k] = some (zero8 2) := by
  suffices H : vRun_T.To vrM 500 [h0, h1, h2, h3, h4, h5, h6, h7, h8, .i mass, .i inertia, .i drag, .i spin, .i m0, .i m1, .i m2, .i m3, .i m4, .i m5, .i m6, .i f0, .i f1, .i f2, .i k] (fun xs ρ' => X.dens ρ' xs = zero8 2) by
    obtain ⟨l, q1, q2⟩ := run_to (R := fun l => l = _) H
    rw [q1, q2]
  unfold vRun_T
  refine To.joinK (fun l => l = [.b true]) ?_ ?_
  · (repeat' (first
        
        | (refine To.subK (fun K hK => ?_))
        | (refine To.need (by simp (disch := omega) only [X.den, X.dens, X.denss, D.int_i, D.boo_b, D.str_s, D.rows_l, List.getD_cons_zero, List.getD_cons_succ, List.cons_append, List.nil_append, List.append_nil, List.length_cons, List.length_nil, decide_eq_true_eq, decide_eq_false_iff_not, Bool.not_eq_true', Bool.not_eq_false', Bool.and_eq_true, Bool.and_eq_false_iff, Bool.true_eq_false, Bool.false_eq_true, Bool.not_true, Bool.not_false, eq_self, D.len_l, wr64, not_true_eq_false, not_false_eq_true] <;> omega) ?_)
        | (refine To.ite (fun c => ?_) (fun c => ?_) <;> ((try simp (disch := omega) only [X.den, X.dens, X.denss, D.int_i, D.boo_b, D.str_s, D.rows_l, List.getD_cons_zero, List.getD_cons_succ, List.cons_append, List.nil_append, List.append_nil, List.length_cons, List.length_nil, decide_eq_true_eq, decide_eq_false_iff_not, Bool.not_eq_true', Bool.not_eq_false', Bool.and_eq_true, Bool.and_eq_false_iff, Bool.true_eq_false, Bool.false_eq_true, Bool.not_true, Bool.not_false, eq_self, D.len_l, wr64, not_true_eq_false, not_false_eq_true] at c) <;> (try (exfalso; omega))))
        | (refine To.ret ⟨rfl, ?_⟩; (try simp (disch := omega) only [X.den, X.dens, X.denss, D.int_i, D.boo_b, D.str_s, D.rows_l, List.getD_cons_zero, List.getD_cons_succ, List.cons_append, List.nil_append, List.append_nil, List.length_cons, List.length_nil, decide_eq_true_eq, decide_eq_false_iff_not, Bool.not_eq_true', Bool.not_eq_false', Bool.and_eq_true, Bool.and_eq_false_iff, Bool.true_eq_false, Bool.false_eq_true, Bool.not_true, Bool.not_false, eq_self, D.len_l, wr64, not_true_eq_false, not_false_eq_true]); refine hK _ _ (by simp only [List.cons_append, List.nil_append]; first | done | rfl) ?_; clear hK; clear K)))
    all_goals (refine To.ret ⟨rfl, ?_⟩; simp only [X.den, X.dens, X.denss, D.int_i, D.boo_b, D.str_s, D.rows_l, List.getD_cons_zero, List.getD_cons_succ, List.cons_append, List.nil_append, List.append_nil, List.length_cons, List.length_nil]; first | done | (congr 2; done) | (congr 2; simp only [decide_eq_true_eq]; first | done | omega))
  rintro l ρ2 rfl eρ
  simp only [List.cons_append, List.nil_append] at eρ
  subst eρ
  exact To.yes rfl (To.ret (by simp only [X.den, X.dens, X.denss, D.int_i, D.boo_b, D.str_s, D.rows_l, List.getD_cons_zero, List.getD_cons_succ, List.cons_append, List.nil_append, List.append_nil, List.length_cons, List.length_nil, zero8]))
theorem vRun_err {h0 h1 h2 h3 h4 h5 h6 h7 h8 : D} {mass inertia drag spin m0 m1 m2 m3 m4 m5 m6 f0 f1 f2 : Int} {k e : Int} (k0 : 0 ≤ k) (k1 : k ≤ 400) (rc : vCheck_T.run vcM 0 [h0, h1, h2, h3, h4, h5, h6, h7, h8, .i mass, .i inertia, .i drag, .i spin, .i m0, .i m1, .i m2, .i m3, .i m4, .i m5, .i m6, .i f0, .i f1, .i f2] = some [.i e]) (he : e ≠ 0) : vRun_T.run vrM 500 [h0, h1, h2, h3, h4, h5, h6, h7, h8, .i mass, .i inertia, .i drag, .i spin, .i m0, .i m1, .i m2, .i m3, .i m4, .i m5, .i m6, .i f0, .i f1, .i f2, .i k] = some (zero8 e) := by
  suffices H : vRun_T.To vrM 500 [h0, h1, h2, h3, h4, h5, h6, h7, h8, .i mass, .i inertia, .i drag, .i spin, .i m0, .i m1, .i m2, .i m3, .i m4, .i m5, .i m6, .i f0, .i f1, .i f2, .i k] (fun xs ρ' => X.dens ρ' xs = zero8 e) by
    obtain ⟨l, q1, q2⟩ := run_to (R := fun l => l = _) H
    rw [q1, q2]
  unfold vRun_T
  refine To.joinK (fun l => l = [.b false]) ?_ ?_
  · (repeat' (first
        
        | (refine To.subK (fun K hK => ?_))
        | (refine To.need (by simp (disch := omega) only [X.den, X.dens, X.denss, D.int_i, D.boo_b, D.str_s, D.rows_l, List.getD_cons_zero, List.getD_cons_succ, List.cons_append, List.nil_append, List.append_nil, List.length_cons, List.length_nil, decide_eq_true_eq, decide_eq_false_iff_not, Bool.not_eq_true', Bool.not_eq_false', Bool.and_eq_true, Bool.and_eq_false_iff, Bool.true_eq_false, Bool.false_eq_true, Bool.not_true, Bool.not_false, eq_self, D.len_l, wr64, not_true_eq_false, not_false_eq_true] <;> omega) ?_)
        | (refine To.ite (fun c => ?_) (fun c => ?_) <;> ((try simp (disch := omega) only [X.den, X.dens, X.denss, D.int_i, D.boo_b, D.str_s, D.rows_l, List.getD_cons_zero, List.getD_cons_succ, List.cons_append, List.nil_append, List.append_nil, List.length_cons, List.length_nil, decide_eq_true_eq, decide_eq_false_iff_not, Bool.not_eq_true', Bool.not_eq_false', Bool.and_eq_true, Bool.and_eq_false_iff, Bool.true_eq_false, Bool.false_eq_true, Bool.not_true, Bool.not_false, eq_self, D.len_l, wr64, not_true_eq_false, not_false_eq_true] at c) <;> (try (exfalso; omega))))
        | (refine To.ret ⟨rfl, ?_⟩; (try simp (disch := omega) only [X.den, X.dens, X.denss, D.int_i, D.boo_b, D.str_s, D.rows_l, List.getD_cons_zero, List.getD_cons_succ, List.cons_append, List.nil_append, List.append_nil, List.length_cons, List.length_nil, decide_eq_true_eq, decide_eq_false_iff_not, Bool.not_eq_true', Bool.not_eq_false', Bool.and_eq_true, Bool.and_eq_false_iff, Bool.true_eq_false, Bool.false_eq_true, Bool.not_true, Bool.not_false, eq_self, D.len_l, wr64, not_true_eq_false, not_false_eq_true]); refine hK _ _ (by simp only [List.cons_append, List.nil_append]; first | done | rfl) ?_; clear hK; clear K)))
    all_goals (refine To.ret ⟨rfl, ?_⟩; simp only [X.den, X.dens, X.denss, D.int_i, D.boo_b, D.str_s, D.rows_l, List.getD_cons_zero, List.getD_cons_succ, List.cons_append, List.nil_append, List.append_nil, List.length_cons, List.length_nil]; first | done | (congr 2; done) | (congr 2; simp only [decide_eq_false_iff_not]; first | done | omega))
  rintro l ρ2 rfl eρ
  simp only [List.cons_append, List.nil_append] at eρ
  subst eρ
  refine To.no rfl ?_
  refine To.callK (l := [.i e]) rc rfl _ (by simp only [List.cons_append, List.nil_append]; first | done | rfl) ?_
  refine To.loopK (fun n l => l = [.i m0, .i m1, .i m2, .i m3, .i m4, .i m5, .i m6, .i e, .i 0]) (fun l => l = [.i m0, .i m1, .i m2, .i m3, .i m4, .i m5, .i m6, .i e]) 0 (by omega) ?_ ?_ ?_
  · simp only [X.den, X.dens, X.denss, D.int_i, D.boo_b, D.str_s, D.rows_l, List.getD_cons_zero, List.getD_cons_succ, List.cons_append, List.nil_append, List.append_nil, List.length_cons, List.length_nil]
  · rintro n l ρ2 rfl eρ
    simp only [List.cons_append, List.nil_append] at eρ
    subst eρ
    refine To.ite (fun c => ?_) (fun c => To.ret (.inr ⟨rfl, ?_⟩))
    · refine To.no (by simp only [X.den, X.dens, X.denss, D.int_i, D.boo_b, D.str_s, D.rows_l, List.getD_cons_zero, List.getD_cons_succ, List.cons_append, List.nil_append, List.append_nil, List.length_cons, List.length_nil]; exact decide_eq_false he) (To.ret (.inr ⟨rfl, ?_⟩))
      simp only [X.den, X.dens, X.denss, D.int_i, D.boo_b, D.str_s, D.rows_l, List.getD_cons_zero, List.getD_cons_succ, List.cons_append, List.nil_append, List.append_nil, List.length_cons, List.length_nil]
    · simp only [X.den, X.dens, X.denss, D.int_i, D.boo_b, D.str_s, D.rows_l, List.getD_cons_zero, List.getD_cons_succ, List.cons_append, List.nil_append, List.append_nil, List.length_cons, List.length_nil]
  rintro l ρ2 rfl eρ
  simp only [List.cons_append, List.nil_append] at eρ
  subst eρ
  refine ⟨rfl, To.no (by simp only [X.den, X.dens, X.denss, D.int_i, D.boo_b, D.str_s, D.rows_l, List.getD_cons_zero, List.getD_cons_succ, List.cons_append, List.nil_append, List.append_nil, List.length_cons, List.length_nil]; exact decide_eq_false he) (To.ret ?_)⟩
  simp only [X.den, X.dens, X.denss, D.int_i, D.boo_b, D.str_s, D.rows_l, List.getD_cons_zero, List.getD_cons_succ, List.cons_append, List.nil_append, List.append_nil, List.length_cons, List.length_nil, zero8]
noncomputable def rnW : List D → Option (List D) := fun ds => match ds with
  | [h0, h1, h2, h3, h4, h5, h6, h7, h8, .i mass, .i inertia, .i drag, .i spin, .i m0, .i m1, .i m2, .i m3, .i m4, .i m5, .i m6, .i f0, .i f1, .i f2, .i k] => vRun_T.run vrM 500 [h0, h1, h2, h3, h4, h5, h6, h7, h8, .i mass, .i inertia, .i drag, .i spin, .i m0, .i m1, .i m2, .i m3, .i m4, .i m5, .i m6, .i f0, .i f1, .i f2, .i k]
  | _ => none
theorem xRun_ok : ConOk Try.prog vRun_K rnW := con_sub vRun_ok fun ds outs h => by
  unfold rnW at h
  split at h
  · exact h
  · cases h
noncomputable def yrM : Models := Models.on rwCheck_K.f (wCheck_T.run wcM 0) (Models.on yvV_K.f vlM (Models.on yStep_K.f stW noM))
set_option maxHeartbeats 4000000 in
theorem yRun_ok : ConOk Try.prog yRun_K rnW := con_tot follows (M := yrM) (one_con (rwCheck_ok.to _) (one_con (yvV_ok.to _) (one_con (yStep_ok.to _) no_cons))) yRun_t rfl 500 fun ds outs hlen h => by
  unfold rnW at h
  split at h
  case h_2 => cases h
  rename_i h0 h1 h2 h3 h4 h5 h6 h7 h8 mass inertia drag spin m0 m1 m2 m3 m4 m5 m6 f0 f1 f2 k
  clear hlen
  unfold yRun_T
  by_cases hk : 0 ≤ k ∧ k ≤ 400
  case neg =>
    rw [vRun_lim hk] at h
    injection h with h
    subst h
    refine To.joinK (fun l => l = [.b false]) ?_ ?_
    · (repeat' (first
          
          | (refine To.subK (fun K hK => ?_))
          | (refine To.need (by simp (disch := omega) only [X.den, X.dens, X.denss, D.int_i, D.boo_b, D.str_s, D.rows_l, List.getD_cons_zero, List.getD_cons_succ, List.cons_append, List.nil_append, List.append_nil, List.length_cons, List.length_nil, decide_eq_true_eq, decide_eq_false_iff_not, Bool.not_eq_true', Bool.not_eq_false', Bool.and_eq_true, Bool.and_eq_false_iff, Bool.true_eq_false, Bool.false_eq_true, Bool.not_true, Bool.not_false, eq_self, D.len_l, wr64, not_true_eq_false, not_false_eq_true] <;> omega) ?_)
          | (refine To.ite (fun c => ?_) (fun c => ?_) <;> ((try simp (disch := omega) only [X.den, X.dens, X.denss, D.int_i, D.boo_b, D.str_s, D.rows_l, List.getD_cons_zero, List.getD_cons_succ, List.cons_append, List.nil_append, List.append_nil, List.length_cons, List.length_nil, decide_eq_true_eq, decide_eq_false_iff_not, Bool.not_eq_true', Bool.not_eq_false', Bool.and_eq_true, Bool.and_eq_false_iff, Bool.true_eq_false, Bool.false_eq_true, Bool.not_true, Bool.not_false, eq_self, D.len_l, wr64, not_true_eq_false, not_false_eq_true] at c) <;> (try (exfalso; omega))))
          | (refine To.ret ⟨rfl, ?_⟩; (try simp (disch := omega) only [X.den, X.dens, X.denss, D.int_i, D.boo_b, D.str_s, D.rows_l, List.getD_cons_zero, List.getD_cons_succ, List.cons_append, List.nil_append, List.append_nil, List.length_cons, List.length_nil, decide_eq_true_eq, decide_eq_false_iff_not, Bool.not_eq_true', Bool.not_eq_false', Bool.and_eq_true, Bool.and_eq_false_iff, Bool.true_eq_false, Bool.false_eq_true, Bool.not_true, Bool.not_false, eq_self, D.len_l, wr64, not_true_eq_false, not_false_eq_true]); refine hK _ _ (by simp only [List.cons_append, List.nil_append]; first | done | rfl) ?_; clear hK; clear K)))
      all_goals (refine To.ret ⟨rfl, ?_⟩; simp only [X.den, X.dens, X.denss, D.int_i, D.boo_b, D.str_s, D.rows_l, List.getD_cons_zero, List.getD_cons_succ, List.cons_append, List.nil_append, List.append_nil, List.length_cons, List.length_nil]; first | done | (congr 2; done) | (congr 2; simp only [Bool.not_eq_false', decide_eq_true_eq]; first | done | omega))
    rintro l ρ2 rfl eρ
    simp only [List.cons_append, List.nil_append] at eρ
    subst eρ
    exact To.no rfl (To.ret (by simp only [X.den, X.dens, X.denss, D.int_i, D.boo_b, D.str_s, D.rows_l, List.getD_cons_zero, List.getD_cons_succ, List.cons_append, List.nil_append, List.append_nil, List.length_cons, List.length_nil, zero8]))
  obtain ⟨k0, k1⟩ := hk
  refine To.joinK (fun l => l = [.b true]) ?_ ?_
  · (repeat' (first
        
        | (refine To.subK (fun K hK => ?_))
        | (refine To.need (by simp (disch := omega) only [X.den, X.dens, X.denss, D.int_i, D.boo_b, D.str_s, D.rows_l, List.getD_cons_zero, List.getD_cons_succ, List.cons_append, List.nil_append, List.append_nil, List.length_cons, List.length_nil, decide_eq_true_eq, decide_eq_false_iff_not, Bool.not_eq_true', Bool.not_eq_false', Bool.and_eq_true, Bool.and_eq_false_iff, Bool.true_eq_false, Bool.false_eq_true, Bool.not_true, Bool.not_false, eq_self, D.len_l, wr64, not_true_eq_false, not_false_eq_true] <;> omega) ?_)
        | (refine To.ite (fun c => ?_) (fun c => ?_) <;> ((try simp (disch := omega) only [X.den, X.dens, X.denss, D.int_i, D.boo_b, D.str_s, D.rows_l, List.getD_cons_zero, List.getD_cons_succ, List.cons_append, List.nil_append, List.append_nil, List.length_cons, List.length_nil, decide_eq_true_eq, decide_eq_false_iff_not, Bool.not_eq_true', Bool.not_eq_false', Bool.and_eq_true, Bool.and_eq_false_iff, Bool.true_eq_false, Bool.false_eq_true, Bool.not_true, Bool.not_false, eq_self, D.len_l, wr64, not_true_eq_false, not_false_eq_true] at c) <;> (try (exfalso; omega))))
        | (refine To.ret ⟨rfl, ?_⟩; (try simp (disch := omega) only [X.den, X.dens, X.denss, D.int_i, D.boo_b, D.str_s, D.rows_l, List.getD_cons_zero, List.getD_cons_succ, List.cons_append, List.nil_append, List.append_nil, List.length_cons, List.length_nil, decide_eq_true_eq, decide_eq_false_iff_not, Bool.not_eq_true', Bool.not_eq_false', Bool.and_eq_true, Bool.and_eq_false_iff, Bool.true_eq_false, Bool.false_eq_true, Bool.not_true, Bool.not_false, eq_self, D.len_l, wr64, not_true_eq_false, not_false_eq_true]); refine hK _ _ (by simp only [List.cons_append, List.nil_append]; first | done | rfl) ?_; clear hK; clear K)))
    all_goals (refine To.ret ⟨rfl, ?_⟩; simp only [X.den, X.dens, X.denss, D.int_i, D.boo_b, D.str_s, D.rows_l, List.getD_cons_zero, List.getD_cons_succ, List.cons_append, List.nil_append, List.append_nil, List.length_cons, List.length_nil]; first | done | (congr 2; done) | (congr 2; simp only [Bool.not_eq_true', decide_eq_false_iff_not]; first | done | omega))
  rintro l ρ2 rfl eρ
  simp only [List.cons_append, List.nil_append] at eρ
  subst eρ
  refine To.yes rfl ?_
  obtain ⟨_, rc, e, rfl, he⟩ := wCheck_to h0 h1 h2 h3 h4 h5 h6 h7 h8 (.i mass) (.i inertia) (.i drag) (.i spin)
  refine To.callK (l := [.i e]) rc rfl _ (by simp only [List.cons_append, List.nil_append]; first | done | rfl) ?_
  by_cases e0 : e = 0
  case neg =>
    rw [vRun_err k0 k1 (vCheck_hull rc e0) e0] at h
    injection h with h
    subst h
    refine To.no (by simp only [X.den, X.dens, X.denss, D.int_i, D.boo_b, D.str_s, D.rows_l, List.getD_cons_zero, List.getD_cons_succ, List.cons_append, List.nil_append, List.append_nil, List.length_cons, List.length_nil]; exact decide_eq_false e0) (To.ret ?_)
    simp only [X.den, X.dens, X.denss, D.int_i, D.boo_b, D.str_s, D.rows_l, List.getD_cons_zero, List.getD_cons_succ, List.cons_append, List.nil_append, List.append_nil, List.length_cons, List.length_nil, zero8]
  subst e0
  have hu := he.1 rfl
  refine To.yes rfl ?_
  by_cases mo : MoI m0 m1 m2 m3 m4 m5 m6
  case neg =>
    rw [vRun_err k0 k1 (vCheck_mot rc mo) (by decide)] at h
    injection h with h
    subst h
    refine To.callK (l := [.b false]) (congrArg (fun b => some [D.b b]) (vlB_f mo)) rfl _ (by simp only [List.cons_append, List.nil_append]; first | done | rfl) ?_
    exact To.no rfl (To.ret (by simp only [X.den, X.dens, X.denss, D.int_i, D.boo_b, D.str_s, D.rows_l, List.getD_cons_zero, List.getD_cons_succ, List.cons_append, List.nil_append, List.append_nil, List.length_cons, List.length_nil, zero8]))
  refine To.callK (l := [.b true]) (congrArg (fun b => some [D.b b]) (vlB_t mo)) rfl _ (by simp only [List.cons_append, List.nil_append]; first | done | rfl) ?_
  refine To.yes rfl ?_
  by_cases fr : FrI f0 f1 f2
  case neg =>
    rw [vRun_err k0 k1 (vCheck_frc rc mo fr) (by decide)] at h
    injection h with h
    subst h
    clear hu he rc mo
    simp only [FrI, FrcOk, D.int_i] at fr
    refine To.joinK (fun l => l = [.b true]) ?_ ?_
    · (repeat' (first
          
          | (refine To.subK (fun K hK => ?_))
          | (refine To.need (by simp (disch := omega) only [X.den, X.dens, X.denss, D.int_i, D.boo_b, D.str_s, D.rows_l, List.getD_cons_zero, List.getD_cons_succ, List.cons_append, List.nil_append, List.append_nil, List.length_cons, List.length_nil, decide_eq_true_eq, decide_eq_false_iff_not, Bool.not_eq_true', Bool.not_eq_false', Bool.and_eq_true, Bool.and_eq_false_iff, Bool.true_eq_false, Bool.false_eq_true, Bool.not_true, Bool.not_false, eq_self, D.len_l, wr64, not_true_eq_false, not_false_eq_true] <;> omega) ?_)
          | (refine To.ite (fun c => ?_) (fun c => ?_) <;> ((try simp (disch := omega) only [X.den, X.dens, X.denss, D.int_i, D.boo_b, D.str_s, D.rows_l, List.getD_cons_zero, List.getD_cons_succ, List.cons_append, List.nil_append, List.append_nil, List.length_cons, List.length_nil, decide_eq_true_eq, decide_eq_false_iff_not, Bool.not_eq_true', Bool.not_eq_false', Bool.and_eq_true, Bool.and_eq_false_iff, Bool.true_eq_false, Bool.false_eq_true, Bool.not_true, Bool.not_false, eq_self, D.len_l, wr64, not_true_eq_false, not_false_eq_true] at c) <;> (try (exfalso; omega))))
          | (refine To.ret ⟨rfl, ?_⟩; (try simp (disch := omega) only [X.den, X.dens, X.denss, D.int_i, D.boo_b, D.str_s, D.rows_l, List.getD_cons_zero, List.getD_cons_succ, List.cons_append, List.nil_append, List.append_nil, List.length_cons, List.length_nil, decide_eq_true_eq, decide_eq_false_iff_not, Bool.not_eq_true', Bool.not_eq_false', Bool.and_eq_true, Bool.and_eq_false_iff, Bool.true_eq_false, Bool.false_eq_true, Bool.not_true, Bool.not_false, eq_self, D.len_l, wr64, not_true_eq_false, not_false_eq_true]); refine hK _ _ (by simp only [List.cons_append, List.nil_append]; first | done | rfl) ?_; clear hK; clear K)))
      all_goals (refine To.ret ⟨rfl, ?_⟩; simp only [X.den, X.dens, X.denss, D.int_i, D.boo_b, D.str_s, D.rows_l, List.getD_cons_zero, List.getD_cons_succ, List.cons_append, List.nil_append, List.append_nil, List.length_cons, List.length_nil]; first | done | (congr 2; done) | (congr 2; simp only [Bool.not_not, decide_eq_true_eq]; first | done | omega))
    rintro l ρ2 rfl eρ
    simp only [List.cons_append, List.nil_append] at eρ
    subst eρ
    exact To.yes rfl (To.ret (by simp only [X.den, X.dens, X.denss, D.int_i, D.boo_b, D.str_s, D.rows_l, List.getD_cons_zero, List.getD_cons_succ, List.cons_append, List.nil_append, List.append_nil, List.length_cons, List.length_nil, zero8]))
  obtain ⟨e0, hv, hr⟩ := vRun_to h0 h1 h2 h3 h4 h5 h6 h7 h8 (.i mass) (.i inertia) (.i drag) (.i spin) (.i f0) (.i f1) (.i f2) (m := [.i m0, .i m1, .i m2, .i m3, .i m4, .i m5, .i m6]) rfl (t := .i k) k0 k1
  obtain rfl : e0 = 0 := hv.2 ⟨hu, mo, fr⟩
  have hr : vRun_T.run vrM 500 [h0, h1, h2, h3, h4, h5, h6, h7, h8, .i mass, .i inertia, .i drag, .i spin, .i m0, .i m1, .i m2, .i m3, .i m4, .i m5, .i m6, .i f0, .i f1, .i f2, .i k] = some (outM (iterM h0 h1 h2 h3 h4 h5 h6 h7 h8 (.i mass) (.i inertia) (.i drag) (.i spin) (.i f0) (.i f1) (.i f2) k.toNat ([.i m0, .i m1, .i m2, .i m3, .i m4, .i m5, .i m6], 0))) := hr
  rw [hr] at h
  injection h with h
  subst h
  clear hr hv he rc
  simp only [FrI, FrcOk, D.int_i] at fr
  refine To.joinK (fun l => l = [.b false]) ?_ ?_
  · clear hu mo
    (repeat' (first
        
        | (refine To.subK (fun K hK => ?_))
        | (refine To.need (by simp (disch := omega) only [X.den, X.dens, X.denss, D.int_i, D.boo_b, D.str_s, D.rows_l, List.getD_cons_zero, List.getD_cons_succ, List.cons_append, List.nil_append, List.append_nil, List.length_cons, List.length_nil, decide_eq_true_eq, decide_eq_false_iff_not, Bool.not_eq_true', Bool.not_eq_false', Bool.and_eq_true, Bool.and_eq_false_iff, Bool.true_eq_false, Bool.false_eq_true, Bool.not_true, Bool.not_false, eq_self, D.len_l, wr64, not_true_eq_false, not_false_eq_true] <;> omega) ?_)
        | (refine To.ite (fun c => ?_) (fun c => ?_) <;> ((try simp (disch := omega) only [X.den, X.dens, X.denss, D.int_i, D.boo_b, D.str_s, D.rows_l, List.getD_cons_zero, List.getD_cons_succ, List.cons_append, List.nil_append, List.append_nil, List.length_cons, List.length_nil, decide_eq_true_eq, decide_eq_false_iff_not, Bool.not_eq_true', Bool.not_eq_false', Bool.and_eq_true, Bool.and_eq_false_iff, Bool.true_eq_false, Bool.false_eq_true, Bool.not_true, Bool.not_false, eq_self, D.len_l, wr64, not_true_eq_false, not_false_eq_true] at c) <;> (try (exfalso; omega))))
        | (refine To.ret ⟨rfl, ?_⟩; (try simp (disch := omega) only [X.den, X.dens, X.denss, D.int_i, D.boo_b, D.str_s, D.rows_l, List.getD_cons_zero, List.getD_cons_succ, List.cons_append, List.nil_append, List.append_nil, List.length_cons, List.length_nil, decide_eq_true_eq, decide_eq_false_iff_not, Bool.not_eq_true', Bool.not_eq_false', Bool.and_eq_true, Bool.and_eq_false_iff, Bool.true_eq_false, Bool.false_eq_true, Bool.not_true, Bool.not_false, eq_self, D.len_l, wr64, not_true_eq_false, not_false_eq_true]); refine hK _ _ (by simp only [List.cons_append, List.nil_append]; first | done | rfl) ?_; clear hK; clear K)))
    all_goals (refine To.ret ⟨rfl, ?_⟩; simp only [X.den, X.dens, X.denss, D.int_i, D.boo_b, D.str_s, D.rows_l, List.getD_cons_zero, List.getD_cons_succ, List.cons_append, List.nil_append, List.append_nil, List.length_cons, List.length_nil]; first | done | (congr 2; done) | (congr 2; simp only [Bool.not_not, decide_eq_false_iff_not]; first | done | omega))
  rintro l ρ2 rfl eρ
  simp only [List.cons_append, List.nil_append] at eρ
  subst eρ
  refine To.no rfl ?_
  refine To.loopK (fun n l => ∃ j n0 n1 n2 n3 n4 n5 n6 : Int, l = [.i n0, .i n1, .i n2, .i n3, .i n4, .i n5, .i n6, .i j] ∧ 0 ≤ j ∧ (n : Int) + j = k ∧ iterM h0 h1 h2 h3 h4 h5 h6 h7 h8 (.i mass) (.i inertia) (.i drag) (.i spin) (.i f0) (.i f1) (.i f2) n ([.i n0, .i n1, .i n2, .i n3, .i n4, .i n5, .i n6], 0) = (iterM h0 h1 h2 h3 h4 h5 h6 h7 h8 (.i mass) (.i inertia) (.i drag) (.i spin) (.i f0) (.i f1) (.i f2) k.toNat ([.i m0, .i m1, .i m2, .i m3, .i m4, .i m5, .i m6], 0)))
    (fun l => (∃ n0 n1 n2 n3 n4 n5 n6 : Int, l = [.i 1, .i n0, .i n1, .i n2, .i n3, .i n4, .i n5, .i n6, .i 0, .i 0, .i 0, .i 0, .i 0, .i 0, .i 0, .i 0] ∧ (iterM h0 h1 h2 h3 h4 h5 h6 h7 h8 (.i mass) (.i inertia) (.i drag) (.i spin) (.i f0) (.i f1) (.i f2) k.toNat ([.i m0, .i m1, .i m2, .i m3, .i m4, .i m5, .i m6], 0)) = ([.i n0, .i n1, .i n2, .i n3, .i n4, .i n5, .i n6], 0)) ∨ (∃ x1 x2 x3 x4 x5 x6 x7 x8 x9 x10 x11 x12 x13 x14, ∃ e : Int, l = [.i 0, x1, x2, x3, x4, x5, x6, x7, x8, x9, x10, x11, x12, x13, x14, .i e] ∧ e ≠ 0 ∧ (iterM h0 h1 h2 h3 h4 h5 h6 h7 h8 (.i mass) (.i inertia) (.i drag) (.i spin) (.i f0) (.i f1) (.i f2) k.toNat ([.i m0, .i m1, .i m2, .i m3, .i m4, .i m5, .i m6], 0)).2 = e)) k.toNat (by omega) ?_ ?_ ?_
  · exact ⟨0, m0, m1, m2, m3, m4, m5, m6, by simp only [X.den, X.dens, X.denss, D.int_i, D.boo_b, D.str_s, D.rows_l, List.getD_cons_zero, List.getD_cons_succ, List.cons_append, List.nil_append, List.append_nil, List.length_cons, List.length_nil], by omega, by omega, rfl⟩
  · rintro n l ρ2 ⟨j, n0, n1, n2, n3, n4, n5, n6, rfl, j0, j1, hi⟩ eρ
    simp only [List.cons_append, List.nil_append] at eρ
    subst eρ
    refine To.ite (fun c => ?_) (fun c => ?_) <;> simp only [X.den, X.dens, X.denss, D.int_i, D.boo_b, D.str_s, D.rows_l, List.getD_cons_zero, List.getD_cons_succ, List.cons_append, List.nil_append, List.append_nil, List.length_cons, List.length_nil, decide_eq_true_eq, decide_eq_false_iff_not, Bool.not_eq_true', Bool.not_eq_false', Bool.and_eq_true, Bool.and_eq_false_iff, Bool.true_eq_false, Bool.false_eq_true, Bool.not_true, Bool.not_false, eq_self] at c
    · obtain ⟨n, rfl⟩ := Nat.exists_eq_succ_of_ne_zero (show n ≠ 0 by omega)
      obtain ⟨r0, r1, r2, r3, r4, r5, r6, e, rr⟩ := vStep_ints (h0 := h0) (h1 := h1) (h2 := h2) (h3 := h3) (h4 := h4) (h5 := h5) (h6 := h6) (h7 := h7) (h8 := h8) (mass := mass) (inertia := inertia) (drag := drag) (spin := spin) (m0 := n0) (m1 := n1) (m2 := n2) (m3 := n3) (m4 := n4) (m5 := n5) (m6 := n6) (f0 := f0) (f1 := f1) (f2 := f2)
      have es : stepM h0 h1 h2 h3 h4 h5 h6 h7 h8 (.i mass) (.i inertia) (.i drag) (.i spin) (.i f0) (.i f1) (.i f2) [.i n0, .i n1, .i n2, .i n3, .i n4, .i n5, .i n6] = ([.i r0, .i r1, .i r2, .i r3, .i r4, .i r5, .i r6], e) := by
        have : stepO h0 h1 h2 h3 h4 h5 h6 h7 h8 (.i mass) (.i inertia) (.i drag) (.i spin) (.i f0) (.i f1) (.i f2) [.i n0, .i n1, .i n2, .i n3, .i n4, .i n5, .i n6] = [.i r0, .i r1, .i r2, .i r3, .i r4, .i r5, .i r6, .i e] := congrArg (fun o => Option.getD o []) rr
        simp only [stepM, this]
        rfl
      simp only [iterM, if_pos, es] at hi
      refine To.callK (l := [.i r0, .i r1, .i r2, .i r3, .i r4, .i r5, .i r6, .i e]) rr rfl _ (by simp only [List.cons_append, List.nil_append]; first | done | rfl) ?_
      refine To.ite (fun c2 => ?_) (fun c2 => ?_) <;> simp only [X.den, X.dens, X.denss, D.int_i, D.boo_b, D.str_s, D.rows_l, List.getD_cons_zero, List.getD_cons_succ, List.cons_append, List.nil_append, List.append_nil, List.length_cons, List.length_nil, decide_eq_true_eq, decide_eq_false_iff_not, Bool.not_eq_true', Bool.not_eq_false', Bool.and_eq_true, Bool.and_eq_false_iff, Bool.true_eq_false, Bool.false_eq_true, Bool.not_true, Bool.not_false, eq_self] at c2
      · subst c2
        refine To.ret (.inl ⟨rfl, n, by omega, j + 1, r0, r1, r2, r3, r4, r5, r6, ?_, by omega, by omega, hi⟩)
        simp only [X.den, X.dens, X.denss, D.int_i, D.boo_b, D.str_s, D.rows_l, List.getD_cons_zero, List.getD_cons_succ, List.cons_append, List.nil_append, List.append_nil, List.length_cons, List.length_nil]
        rw [wr64 (by omega) (by omega)]
      · refine To.ret (.inr ⟨rfl, .inr ⟨_, _, _, _, _, _, _, _, _, _, _, _, _, _, e, by simp only [X.den, X.dens, X.denss, D.int_i, D.boo_b, D.str_s, D.rows_l, List.getD_cons_zero, List.getD_cons_succ, List.cons_append, List.nil_append, List.append_nil, List.length_cons, List.length_nil]; rfl, c2, ?_⟩⟩)
        rw [← hi, iterM_err _ _ _ _ _ _ _ _ _ _ _ _ _ _ _ _ _ c2]
    · obtain rfl : n = 0 := by omega
      exact To.ret (.inr ⟨rfl, .inl ⟨n0, n1, n2, n3, n4, n5, n6, by simp only [X.den, X.dens, X.denss, D.int_i, D.boo_b, D.str_s, D.rows_l, List.getD_cons_zero, List.getD_cons_succ, List.cons_append, List.nil_append, List.append_nil, List.length_cons, List.length_nil], hi.symm⟩⟩)
  rintro l ρ2 (⟨n0, n1, n2, n3, n4, n5, n6, rfl, hI⟩ | ⟨x1, x2, x3, x4, x5, x6, x7, x8, x9, x10, x11, x12, x13, x14, e, rfl, he, hI⟩) eρ
  · simp only [List.cons_append, List.nil_append] at eρ
    subst eρ
    refine ⟨rfl, To.no rfl (To.ret ?_)⟩
    rw [hI]
    simp only [X.den, X.dens, X.denss, D.int_i, D.boo_b, D.str_s, D.rows_l, List.getD_cons_zero, List.getD_cons_succ, List.cons_append, List.nil_append, List.append_nil, List.length_cons, List.length_nil, outM, if_pos]
  · simp only [List.cons_append, List.nil_append] at eρ
    subst eρ
    refine ⟨rfl, To.yes rfl (To.ret ?_)⟩
    unfold outM
    rw [if_neg (by rw [hI]; exact he), hI]
    simp only [X.den, X.dens, X.denss, D.int_i, D.boo_b, D.str_s, D.rows_l, List.getD_cons_zero, List.getD_cons_succ, List.cons_append, List.nil_append, List.append_nil, List.length_cons, List.length_nil]
end Go.Proofs.Ytdkamfkpmplaoaa
set_option maxRecDepth 100000
namespace Go.Proofs.Ytdkamfkpmplaoaa
open Go.RowKit Fx
theorem srcBent22_ok : ConOk Try.prog srcBent22_K (srcBent22_T.run srcM 20) := con_run follows (one_con (srcN_ok.to _) no_cons) srcBent22_t rfl 20
set_option maxHeartbeats 2000000 in
theorem srcBent22_in {rows : List (List D)} {at_ : Int} (h : SrcOk rows at_) {g0 g1 g2 g3 g4 g5 g6 g7 g8 : D} {g9 g10 g11 g12 : Int} : ∃ l, srcBent22_T.run srcM 20 [.l rows, .i at_, g0, g1, g2, g3, g4, g5, g6, g7, g8, .i g9, .i g10, .i g11, .i g12] = some l ∧ ∃ h0 h1 h2 h3 h4 h5 h6 h7 h8, ∃ h9 h10 h11 h12 at' : Int, l = [h0, h1, h2, h3, h4, h5, h6, h7, h8, .i h9, .i h10, .i h11, .i h12, .l rows, .i at'] ∧ SrcOk rows at' := by
  refine run_to ?_
  unfold srcBent22_T
  refine To.joinK (fun l => ∃ (t : Int) (a b : D) (c d e f : Int), l = [.l rows, .i t, a, b, .i c, .i d, .i e, .i f] ∧ SrcOk rows t) ?_ ?_
  · refine To.viaK (by (try simp (disch := omega) only [X.den, X.dens, X.denss, D.int_i, D.boo_b, D.str_s, D.rows_l, List.getD_cons_zero, List.getD_cons_succ, List.cons_append, List.nil_append, List.append_nil, List.length_cons, List.length_nil, decide_eq_true_eq, decide_eq_false_iff_not, Bool.not_eq_true', Bool.not_eq_false', Bool.and_eq_true, Bool.and_eq_false_iff, Bool.true_eq_false, Bool.false_eq_true, Bool.not_true, Bool.not_false, eq_self, D.len_l, wr64, not_true_eq_false, not_false_eq_true]); exact srcN_to h (by omega) (by omega)) ?_
    rintro _ ρ2 ⟨r, t0, rfl, a0, b0, h0⟩ eρ
    refine ⟨rfl, ?_⟩
    simp only [List.cons_append, List.nil_append] at eρ
    subst eρ
    refine To.ite (fun c => ?_) (fun c => ?_)
    · refine To.loopK (fun m l => ∃ (t k : Int) (d : D), l = [d, .l rows, .i t, .i k] ∧ SrcOk rows t ∧ d.rows.length = 12 ∧ 0 ≤ k ∧ (m : Int) + k = 12) (fun l => ∃ (t : Int) (d : D), l = [d, .l rows, .i t] ∧ SrcOk rows t ∧ d.rows.length = 12) 12 (by decide) ?_ ?_ ?_
      · exact ⟨t0, 0, _, by simp only [X.den, X.dens, X.denss, D.int_i, D.boo_b, D.str_s, D.rows_l, List.getD_cons_zero, List.getD_cons_succ, List.cons_append, List.nil_append, List.append_nil, List.length_cons, List.length_nil]; rfl, h0, rfl, by omega, by omega⟩
      · rintro m l ρ2 ⟨a, k, d, rfl, hs, hf, k0, hk⟩ eρ
        simp only [List.cons_append, List.nil_append] at eρ
        subst eρ
        refine To.ite (fun c => ?_) (fun c => ?_) <;> simp only [X.den, X.dens, X.denss, D.int_i, D.boo_b, D.str_s, D.rows_l, List.getD_cons_zero, List.getD_cons_succ, List.cons_append, List.nil_append, List.append_nil, List.length_cons, List.length_nil, decide_eq_true_eq, decide_eq_false_iff_not, Bool.not_eq_true', Bool.not_eq_false', Bool.and_eq_true, Bool.and_eq_false_iff, Bool.true_eq_false, Bool.false_eq_true, Bool.not_true, Bool.not_false, eq_self] at c
        · refine To.viaK (by (try simp (disch := omega) only [X.den, X.dens, X.denss, D.int_i, D.boo_b, D.str_s, D.rows_l, List.getD_cons_zero, List.getD_cons_succ, List.cons_append, List.nil_append, List.append_nil, List.length_cons, List.length_nil, decide_eq_true_eq, decide_eq_false_iff_not, Bool.not_eq_true', Bool.not_eq_false', Bool.and_eq_true, Bool.and_eq_false_iff, Bool.true_eq_false, Bool.false_eq_true, Bool.not_true, Bool.not_false, eq_self, D.len_l, wr64, not_true_eq_false, not_false_eq_true]); exact srcN_to hs (by omega) (by omega)) ?_
          rintro _ ρ2 ⟨r2, t2, rfl, a2, b2, h2⟩ eρ
          refine ⟨rfl, ?_⟩
          simp only [List.cons_append, List.nil_append] at eρ
          subst eρ
          refine To.need (by simp only [X.den, X.dens, X.denss, D.int_i, D.boo_b, D.str_s, D.rows_l, List.getD_cons_zero, List.getD_cons_succ, List.cons_append, List.nil_append, List.append_nil, List.length_cons, List.length_nil, decide_eq_true_eq, decide_eq_false_iff_not, Bool.not_eq_true', Bool.not_eq_false', Bool.and_eq_true, Bool.and_eq_false_iff, Bool.true_eq_false, Bool.false_eq_true, Bool.not_true, Bool.not_false, eq_self]; omega) ?_
          refine To.need (by simp only [X.den, X.dens, X.denss, D.int_i, D.boo_b, D.str_s, D.rows_l, List.getD_cons_zero, List.getD_cons_succ, List.cons_append, List.nil_append, List.append_nil, List.length_cons, List.length_nil, decide_eq_true_eq, decide_eq_false_iff_not, Bool.not_eq_true', Bool.not_eq_false', Bool.and_eq_true, Bool.and_eq_false_iff, Bool.true_eq_false, Bool.false_eq_true, Bool.not_true, Bool.not_false, eq_self, D.len]; omega) ?_
          exact To.ret (.inl ⟨rfl, m - 1, by omega, t2, k + 1, _, by simp only [X.den, X.dens, X.denss, D.int_i, D.boo_b, D.str_s, D.rows_l, List.getD_cons_zero, List.getD_cons_succ, List.cons_append, List.nil_append, List.append_nil, List.length_cons, List.length_nil]; rfl, h2, by rw [put_rows, List.length_set]; exact hf, by omega, by omega⟩)
        · exact To.ret (.inr ⟨rfl, a, d, by simp only [X.den, X.dens, X.denss, D.int_i, D.boo_b, D.str_s, D.rows_l, List.getD_cons_zero, List.getD_cons_succ, List.cons_append, List.nil_append, List.append_nil, List.length_cons, List.length_nil], hs, hf⟩)
      rintro l ρ2 ⟨t1, d, rfl, h1, hl⟩ eρ
      simp only [List.cons_append, List.nil_append] at eρ
      subst eρ
      refine ⟨rfl, To.need (by simp only [X.den, X.dens, X.denss, D.int_i, D.boo_b, D.str_s, D.rows_l, List.getD_cons_zero, List.getD_cons_succ, List.cons_append, List.nil_append, List.append_nil, List.length_cons, List.length_nil, decide_eq_true_eq, decide_eq_false_iff_not, Bool.not_eq_true', Bool.not_eq_false', Bool.and_eq_true, Bool.and_eq_false_iff, Bool.true_eq_false, Bool.false_eq_true, Bool.not_true, Bool.not_false, eq_self, D.len]; omega) ?_⟩
      refine To.ret ⟨rfl, ?_⟩
      simp only [X.den, X.dens, X.denss, D.int_i, D.boo_b, D.str_s, D.rows_l, List.getD_cons_zero, List.getD_cons_succ, List.cons_append, List.nil_append, List.append_nil, List.length_cons, List.length_nil]
      exact ⟨t1, _, _, _, _, _, _, rfl, h1⟩
    refine To.ite (fun c => ?_) (fun c => ?_)
    · refine To.loopK (fun m l => ∃ (t k : Int) (d : D), l = [d, .l rows, .i t, .i k] ∧ SrcOk rows t ∧ d.rows.length = 12 ∧ 0 ≤ k ∧ (m : Int) + k = 12) (fun l => ∃ (t : Int) (d : D), l = [d, .l rows, .i t] ∧ SrcOk rows t ∧ d.rows.length = 12) 12 (by decide) ?_ ?_ ?_
      · exact ⟨t0, 0, _, by simp only [X.den, X.dens, X.denss, D.int_i, D.boo_b, D.str_s, D.rows_l, List.getD_cons_zero, List.getD_cons_succ, List.cons_append, List.nil_append, List.append_nil, List.length_cons, List.length_nil]; rfl, h0, rfl, by omega, by omega⟩
      · rintro m l ρ2 ⟨a, k, d, rfl, hs, hf, k0, hk⟩ eρ
        simp only [List.cons_append, List.nil_append] at eρ
        subst eρ
        refine To.ite (fun c => ?_) (fun c => ?_) <;> simp only [X.den, X.dens, X.denss, D.int_i, D.boo_b, D.str_s, D.rows_l, List.getD_cons_zero, List.getD_cons_succ, List.cons_append, List.nil_append, List.append_nil, List.length_cons, List.length_nil, decide_eq_true_eq, decide_eq_false_iff_not, Bool.not_eq_true', Bool.not_eq_false', Bool.and_eq_true, Bool.and_eq_false_iff, Bool.true_eq_false, Bool.false_eq_true, Bool.not_true, Bool.not_false, eq_self] at c
        · refine To.viaK (by (try simp (disch := omega) only [X.den, X.dens, X.denss, D.int_i, D.boo_b, D.str_s, D.rows_l, List.getD_cons_zero, List.getD_cons_succ, List.cons_append, List.nil_append, List.append_nil, List.length_cons, List.length_nil, decide_eq_true_eq, decide_eq_false_iff_not, Bool.not_eq_true', Bool.not_eq_false', Bool.and_eq_true, Bool.and_eq_false_iff, Bool.true_eq_false, Bool.false_eq_true, Bool.not_true, Bool.not_false, eq_self, D.len_l, wr64, not_true_eq_false, not_false_eq_true]); exact srcN_to hs (by omega) (by omega)) ?_
          rintro _ ρ2 ⟨r2, t2, rfl, a2, b2, h2⟩ eρ
          refine ⟨rfl, ?_⟩
          simp only [List.cons_append, List.nil_append] at eρ
          subst eρ
          refine To.need (by simp only [X.den, X.dens, X.denss, D.int_i, D.boo_b, D.str_s, D.rows_l, List.getD_cons_zero, List.getD_cons_succ, List.cons_append, List.nil_append, List.append_nil, List.length_cons, List.length_nil, decide_eq_true_eq, decide_eq_false_iff_not, Bool.not_eq_true', Bool.not_eq_false', Bool.and_eq_true, Bool.and_eq_false_iff, Bool.true_eq_false, Bool.false_eq_true, Bool.not_true, Bool.not_false, eq_self]; omega) ?_
          refine To.need (by simp only [X.den, X.dens, X.denss, D.int_i, D.boo_b, D.str_s, D.rows_l, List.getD_cons_zero, List.getD_cons_succ, List.cons_append, List.nil_append, List.append_nil, List.length_cons, List.length_nil, decide_eq_true_eq, decide_eq_false_iff_not, Bool.not_eq_true', Bool.not_eq_false', Bool.and_eq_true, Bool.and_eq_false_iff, Bool.true_eq_false, Bool.false_eq_true, Bool.not_true, Bool.not_false, eq_self, D.len]; omega) ?_
          exact To.ret (.inl ⟨rfl, m - 1, by omega, t2, k + 1, _, by simp only [X.den, X.dens, X.denss, D.int_i, D.boo_b, D.str_s, D.rows_l, List.getD_cons_zero, List.getD_cons_succ, List.cons_append, List.nil_append, List.append_nil, List.length_cons, List.length_nil]; rfl, h2, by rw [put_rows, List.length_set]; exact hf, by omega, by omega⟩)
        · exact To.ret (.inr ⟨rfl, a, d, by simp only [X.den, X.dens, X.denss, D.int_i, D.boo_b, D.str_s, D.rows_l, List.getD_cons_zero, List.getD_cons_succ, List.cons_append, List.nil_append, List.append_nil, List.length_cons, List.length_nil], hs, hf⟩)
      rintro l ρ2 ⟨t1, d, rfl, h1, hl⟩ eρ
      simp only [List.cons_append, List.nil_append] at eρ
      subst eρ
      refine ⟨rfl, To.need (by simp only [X.den, X.dens, X.denss, D.int_i, D.boo_b, D.str_s, D.rows_l, List.getD_cons_zero, List.getD_cons_succ, List.cons_append, List.nil_append, List.append_nil, List.length_cons, List.length_nil, decide_eq_true_eq, decide_eq_false_iff_not, Bool.not_eq_true', Bool.not_eq_false', Bool.and_eq_true, Bool.and_eq_false_iff, Bool.true_eq_false, Bool.false_eq_true, Bool.not_true, Bool.not_false, eq_self, D.len]; omega) ?_⟩
      refine To.viaK (by (try simp (disch := omega) only [X.den, X.dens, X.denss, D.int_i, D.boo_b, D.str_s, D.rows_l, List.getD_cons_zero, List.getD_cons_succ, List.cons_append, List.nil_append, List.append_nil, List.length_cons, List.length_nil, decide_eq_true_eq, decide_eq_false_iff_not, Bool.not_eq_true', Bool.not_eq_false', Bool.and_eq_true, Bool.and_eq_false_iff, Bool.true_eq_false, Bool.false_eq_true, Bool.not_true, Bool.not_false, eq_self, D.len_l, wr64, not_true_eq_false, not_false_eq_true]); exact srcN_to h1 (by omega) (by omega)) ?_
      rintro _ ρ2 ⟨r2, t2, rfl, a2, b2, h2⟩ eρ
      refine ⟨rfl, ?_⟩
      simp only [List.cons_append, List.nil_append] at eρ
      subst eρ
      refine To.need (by simp only [X.den, X.dens, X.denss, D.int_i, D.boo_b, D.str_s, D.rows_l, List.getD_cons_zero, List.getD_cons_succ, List.cons_append, List.nil_append, List.append_nil, List.length_cons, List.length_nil, decide_eq_true_eq, decide_eq_false_iff_not, Bool.not_eq_true', Bool.not_eq_false', Bool.and_eq_true, Bool.and_eq_false_iff, Bool.true_eq_false, Bool.false_eq_true, Bool.not_true, Bool.not_false, eq_self]; omega) ?_
      refine To.need (by simp only [X.den, X.dens, X.denss, D.int_i, D.boo_b, D.str_s, D.rows_l, List.getD_cons_zero, List.getD_cons_succ, List.cons_append, List.nil_append, List.append_nil, List.length_cons, List.length_nil, decide_eq_true_eq, decide_eq_false_iff_not, Bool.not_eq_true', Bool.not_eq_false', Bool.and_eq_true, Bool.and_eq_false_iff, Bool.true_eq_false, Bool.false_eq_true, Bool.not_true, Bool.not_false, eq_self, D.len_l, List.length_take]; omega) ?_
      refine To.ret ⟨rfl, ?_⟩
      simp only [X.den, X.dens, X.denss, D.int_i, D.boo_b, D.str_s, D.rows_l, List.getD_cons_zero, List.getD_cons_succ, List.cons_append, List.nil_append, List.append_nil, List.length_cons, List.length_nil]
      exact ⟨t2, _, _, _, _, _, _, rfl, h2⟩
    refine To.ite (fun c => ?_) (fun c => ?_)
    · refine To.viaK (by (try simp (disch := omega) only [X.den, X.dens, X.denss, D.int_i, D.boo_b, D.str_s, D.rows_l, List.getD_cons_zero, List.getD_cons_succ, List.cons_append, List.nil_append, List.append_nil, List.length_cons, List.length_nil, decide_eq_true_eq, decide_eq_false_iff_not, Bool.not_eq_true', Bool.not_eq_false', Bool.and_eq_true, Bool.and_eq_false_iff, Bool.true_eq_false, Bool.false_eq_true, Bool.not_true, Bool.not_false, eq_self, D.len_l, wr64, not_true_eq_false, not_false_eq_true]); exact srcN_to h0 (by omega) (by omega)) ?_
      rintro _ ρ2 ⟨r2, t2, rfl, a2, b2, h2⟩ eρ
      refine ⟨rfl, ?_⟩
      simp only [List.cons_append, List.nil_append] at eρ
      subst eρ
      refine To.need (by simp only [X.den, X.dens, X.denss, D.int_i, D.boo_b, D.str_s, D.rows_l, List.getD_cons_zero, List.getD_cons_succ, List.cons_append, List.nil_append, List.append_nil, List.length_cons, List.length_nil, decide_eq_true_eq, decide_eq_false_iff_not, Bool.not_eq_true', Bool.not_eq_false', Bool.and_eq_true, Bool.and_eq_false_iff, Bool.true_eq_false, Bool.false_eq_true, Bool.not_true, Bool.not_false, eq_self]; omega) ?_
      obtain ⟨m, _, em⟩ := pick_cell (zs := [0, -1, 1000001, 4611686018427387904]) a2 b2
      have em : (D.l [[.i 0], [.i (-1)], [.i 1000001], [.i 4611686018427387904]]).cell r2 0 = .i m := em
      refine To.ret ⟨rfl, ?_⟩
      simp only [X.den, X.dens, X.denss, D.int_i, D.boo_b, D.str_s, D.rows_l, List.getD_cons_zero, List.getD_cons_succ, List.cons_append, List.nil_append, List.append_nil, List.length_cons, List.length_nil, em]
      exact ⟨t2, _, _, _, _, _, _, rfl, h2⟩
    refine To.ite (fun c => ?_) (fun c => ?_)
    · refine To.viaK (by (try simp (disch := omega) only [X.den, X.dens, X.denss, D.int_i, D.boo_b, D.str_s, D.rows_l, List.getD_cons_zero, List.getD_cons_succ, List.cons_append, List.nil_append, List.append_nil, List.length_cons, List.length_nil, decide_eq_true_eq, decide_eq_false_iff_not, Bool.not_eq_true', Bool.not_eq_false', Bool.and_eq_true, Bool.and_eq_false_iff, Bool.true_eq_false, Bool.false_eq_true, Bool.not_true, Bool.not_false, eq_self, D.len_l, wr64, not_true_eq_false, not_false_eq_true]); exact srcN_to h0 (by omega) (by omega)) ?_
      rintro _ ρ2 ⟨r2, t2, rfl, a2, b2, h2⟩ eρ
      refine ⟨rfl, ?_⟩
      simp only [List.cons_append, List.nil_append] at eρ
      subst eρ
      refine To.need (by simp only [X.den, X.dens, X.denss, D.int_i, D.boo_b, D.str_s, D.rows_l, List.getD_cons_zero, List.getD_cons_succ, List.cons_append, List.nil_append, List.append_nil, List.length_cons, List.length_nil, decide_eq_true_eq, decide_eq_false_iff_not, Bool.not_eq_true', Bool.not_eq_false', Bool.and_eq_true, Bool.and_eq_false_iff, Bool.true_eq_false, Bool.false_eq_true, Bool.not_true, Bool.not_false, eq_self]; omega) ?_
      obtain ⟨m, _, em⟩ := pick_cell (zs := [0, -1, 1073741825]) a2 b2
      have em : (D.l [[.i 0], [.i (-1)], [.i 1073741825]]).cell r2 0 = .i m := em
      refine To.ret ⟨rfl, ?_⟩
      simp only [X.den, X.dens, X.denss, D.int_i, D.boo_b, D.str_s, D.rows_l, List.getD_cons_zero, List.getD_cons_succ, List.cons_append, List.nil_append, List.append_nil, List.length_cons, List.length_nil, em]
      exact ⟨t2, _, _, _, _, _, _, rfl, h2⟩
    · refine To.viaK (by (try simp (disch := omega) only [X.den, X.dens, X.denss, D.int_i, D.boo_b, D.str_s, D.rows_l, List.getD_cons_zero, List.getD_cons_succ, List.cons_append, List.nil_append, List.append_nil, List.length_cons, List.length_nil, decide_eq_true_eq, decide_eq_false_iff_not, Bool.not_eq_true', Bool.not_eq_false', Bool.and_eq_true, Bool.and_eq_false_iff, Bool.true_eq_false, Bool.false_eq_true, Bool.not_true, Bool.not_false, eq_self, D.len_l, wr64, not_true_eq_false, not_false_eq_true]); exact srcN_to h0 (by omega) (by omega)) ?_
      rintro _ ρ2 ⟨r2, t2, rfl, a2, b2, h2⟩ eρ
      refine ⟨rfl, ?_⟩
      simp only [List.cons_append, List.nil_append] at eρ
      subst eρ
      refine To.need (by simp only [X.den, X.dens, X.denss, D.int_i, D.boo_b, D.str_s, D.rows_l, List.getD_cons_zero, List.getD_cons_succ, List.cons_append, List.nil_append, List.append_nil, List.length_cons, List.length_nil, decide_eq_true_eq, decide_eq_false_iff_not, Bool.not_eq_true', Bool.not_eq_false', Bool.and_eq_true, Bool.and_eq_false_iff, Bool.true_eq_false, Bool.false_eq_true, Bool.not_true, Bool.not_false, eq_self]; omega) ?_
      refine To.viaK (by (try simp (disch := omega) only [X.den, X.dens, X.denss, D.int_i, D.boo_b, D.str_s, D.rows_l, List.getD_cons_zero, List.getD_cons_succ, List.cons_append, List.nil_append, List.append_nil, List.length_cons, List.length_nil, decide_eq_true_eq, decide_eq_false_iff_not, Bool.not_eq_true', Bool.not_eq_false', Bool.and_eq_true, Bool.and_eq_false_iff, Bool.true_eq_false, Bool.false_eq_true, Bool.not_true, Bool.not_false, eq_self, D.len_l, wr64, not_true_eq_false, not_false_eq_true]); exact srcN_to h2 (by omega) (by omega)) ?_
      rintro _ ρ2 ⟨r3, t3, rfl, a3, b3, h3⟩ eρ
      refine ⟨rfl, ?_⟩
      simp only [List.cons_append, List.nil_append] at eρ
      subst eρ
      refine To.need (by simp only [X.den, X.dens, X.denss, D.int_i, D.boo_b, D.str_s, D.rows_l, List.getD_cons_zero, List.getD_cons_succ, List.cons_append, List.nil_append, List.append_nil, List.length_cons, List.length_nil, decide_eq_true_eq, decide_eq_false_iff_not, Bool.not_eq_true', Bool.not_eq_false', Bool.and_eq_true, Bool.and_eq_false_iff, Bool.true_eq_false, Bool.false_eq_true, Bool.not_true, Bool.not_false, eq_self]; omega) ?_
      obtain ⟨m, _, em⟩ := pick_cell (zs := [-1, (IntKind.i64.wrap (g9 + 1)), 0]) a2 b2
      have em : (D.l [[.i (-1)], [.i (IntKind.i64.wrap (g9 + 1))], [.i 0]]).cell r2 0 = .i m := em
      obtain ⟨n, _, en⟩ := pick_cell (zs := [-1, (IntKind.i64.wrap (g10 + 1)), 0]) a3 b3
      have en : (D.l [[.i (-1)], [.i (IntKind.i64.wrap (g10 + 1))], [.i 0]]).cell r3 0 = .i n := en
      refine To.ret ⟨rfl, ?_⟩
      simp only [X.den, X.dens, X.denss, D.int_i, D.boo_b, D.str_s, D.rows_l, List.getD_cons_zero, List.getD_cons_succ, List.cons_append, List.nil_append, List.append_nil, List.length_cons, List.length_nil, em, en]
      exact ⟨t3, _, _, _, _, _, _, rfl, h3⟩
  rintro l ρ2 ⟨t, a, b, c, d, e, f, rfl, ht⟩ eρ
  simp only [List.cons_append, List.nil_append] at eρ
  subst eρ
  refine To.ret ?_
  simp only [X.den, X.dens, X.denss, D.int_i, D.boo_b, D.str_s, D.rows_l, List.getD_cons_zero, List.getD_cons_succ, List.cons_append, List.nil_append, List.append_nil, List.length_cons, List.length_nil]
  exact ⟨_, _, _, _, _, _, _, _, _, _, _, _, _, _, rfl, ht⟩
theorem len8 {l : List D} (h : l.length = 8) : ∃ a b c d e f g x, l = [a, b, c, d, e, f, g, x] := by
  match l, h with
  | [a, b, c, d, e, f, g, x], _ => exact ⟨a, b, c, d, e, f, g, x, rfl⟩
theorem vRun_ex {h0 h1 h2 h3 h4 h5 h6 h7 h8 : D} {mass inertia drag spin m0 m1 m2 m3 m4 m5 m6 f0 f1 f2 k : Int} : ∃ a b c d e f g x, vRun_T.run vrM 500 [h0, h1, h2, h3, h4, h5, h6, h7, h8, .i mass, .i inertia, .i drag, .i spin, .i m0, .i m1, .i m2, .i m3, .i m4, .i m5, .i m6, .i f0, .i f1, .i f2, .i k] = some [a, b, c, d, e, f, g, x] := by
  by_cases hk : 0 ≤ k ∧ k ≤ 400
  case neg => exact ⟨_, _, _, _, _, _, _, _, vRun_lim hk⟩
  obtain ⟨e0, _, hr⟩ := vRun_to h0 h1 h2 h3 h4 h5 h6 h7 h8 (.i mass) (.i inertia) (.i drag) (.i spin) (.i f0) (.i f1) (.i f2) (m := [.i m0, .i m1, .i m2, .i m3, .i m4, .i m5, .i m6]) rfl (t := .i k) hk.1 hk.2
  have hl : (outM (iterM h0 h1 h2 h3 h4 h5 h6 h7 h8 (.i mass) (.i inertia) (.i drag) (.i spin) (.i f0) (.i f1) (.i f2) (D.i k).int.toNat ([.i m0, .i m1, .i m2, .i m3, .i m4, .i m5, .i m6], e0))).length = 8 := by
    have := iterM_len h0 h1 h2 h3 h4 h5 h6 h7 h8 (.i mass) (.i inertia) (.i drag) (.i spin) (.i f0) (.i f1) (.i f2) (D.i k).int.toNat (s := ([.i m0, .i m1, .i m2, .i m3, .i m4, .i m5, .i m6], e0)) rfl
    unfold outM
    split
    · rw [List.length_append, this]; rfl
    · rfl
  obtain ⟨a, b, c, d, e, f, g, x, hx⟩ := len8 hl
  exact ⟨a, b, c, d, e, f, g, x, hr.trans (congrArg some hx)⟩
theorem wf64 {z : Int} (h : (Lit.int .i64 z).wf = true) : -9223372036854775808 ≤ z ∧ z ≤ 9223372036854775807 := by
  simpa [Lit.wf, IntKind.min, IntKind.max, IntKind.bits, IntKind.signed] using h
end Go.Proofs.Ytdkamfkpmplaoaa
