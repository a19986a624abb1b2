/- OperationExact: all functions for any operations, states, levels, zones and requests: the program's give what the reference's give. -/
import Derived.Test.YtkapaokcgbgjfaaDoorOeT
set_option linter.unusedVariables false
set_option linter.unusedSimpArgs false
set_option maxRecDepth 100000
namespace Go.Proofs.YtkapaokcgbgjfaaDoor
open Go.RowKit Fx
theorem srcBent_ok : ConOk Tryd.prog srcBent_K (srcBent_T.run srcM 0) := con_run follows (one_con (srcN_ok.to _) no_cons) srcBent_t rfl 0
theorem bent_name {r : Int} (h0 : 0 ≤ r) (h1 : r < 4) : ∃ b, (D.l [[.s ⟨#[]⟩], [.s ⟨#[65]⟩], [.s ⟨#[97, 32, 98]⟩], [.s ⟨#[116, 104, 105, 114, 116, 101, 101, 110, 45, 98, 121, 116, 101]⟩]]).cell r 0 = .s b ∧ b.size ≤ 1000 :=
  four (p := fun r => ∃ b, (D.l [[.s ⟨#[]⟩], [.s ⟨#[65]⟩], [.s ⟨#[97, 32, 98]⟩], [.s ⟨#[116, 104, 105, 114, 116, 101, 101, 110, 45, 98, 121, 116, 101]⟩]]).cell r 0 = .s b ∧ b.size ≤ 1000) h0 h1 ⟨_, rfl, by decide⟩ ⟨_, rfl, by decide⟩ ⟨_, rfl, by decide⟩ ⟨_, rfl, by decide⟩
theorem srcBent_to {rows : List (List D)} {at_ : Int} {b : ByteArray} {k x y ye re dr : Int} (h : SrcOk rows at_) (hb : b.size ≤ 1000) :
    ∃ l, srcBent_T.run srcM 0 [.l rows, .i at_, .s b, .i k, .i x, .i y, .i ye, .i re, .i dr] = some l ∧ ∃ b' k' x' y' ye' re' dr' at', l = [.s b', .i k', .i x', .i y', .i ye', .i re', .i dr', .l rows, .i at'] ∧ b'.size ≤ 1000 ∧ SrcOk rows at' := by
  refine run_to ?_
  unfold srcBent_T
  refine To.joinK (fun l => ∃ t b' k' ye' dr', l = [.l rows, .i t, .s b', .i k', .i ye', .i dr'] ∧ b'.size ≤ 1000 ∧ SrcOk rows t) ?_ ?_
  · refine To.viaK (by (try simp (disch := omega) only [X.den, X.dens, X.denss, D.int_i, D.boo_b, D.str_s, D.rows_l, List.getD_cons_zero, List.getD_cons_succ, List.cons_append, List.nil_append, List.append_nil, List.length_cons, List.length_nil, decide_eq_true_eq, decide_eq_false_iff_not, Bool.not_eq_true', Bool.not_eq_false', Bool.and_eq_true, Bool.and_eq_false_iff, Bool.true_eq_false, Bool.false_eq_true, Bool.not_true, Bool.not_false, eq_self, D.len_l, wr64, not_true_eq_false, not_false_eq_true]); exact srcN_to h (by omega) (by omega)) ?_
    rintro _ ρ2 ⟨q, t0, rfl, a0, b0, h0⟩ eρ
    refine ⟨rfl, ?_⟩
    simp only [List.cons_append, List.nil_append] at eρ
    subst eρ
    refine To.ite (fun c => ?_) (fun c => ?_)
    · refine To.viaK (by (try simp (disch := omega) only [X.den, X.dens, X.denss, D.int_i, D.boo_b, D.str_s, D.rows_l, List.getD_cons_zero, List.getD_cons_succ, List.cons_append, List.nil_append, List.append_nil, List.length_cons, List.length_nil, decide_eq_true_eq, decide_eq_false_iff_not, Bool.not_eq_true', Bool.not_eq_false', Bool.and_eq_true, Bool.and_eq_false_iff, Bool.true_eq_false, Bool.false_eq_true, Bool.not_true, Bool.not_false, eq_self, D.len_l, wr64, not_true_eq_false, not_false_eq_true]); exact srcN_to h0 (by omega) (by omega)) ?_
      rintro _ ρ2 ⟨r, t1, rfl, a1, b1, h1⟩ eρ
      refine ⟨rfl, ?_⟩
      simp only [List.cons_append, List.nil_append] at eρ
      subst eρ
      refine To.need (by simp only [X.den, X.dens, X.denss, D.int_i, D.boo_b, D.str_s, D.rows_l, List.getD_cons_zero, List.getD_cons_succ, List.cons_append, List.nil_append, List.append_nil, List.length_cons, List.length_nil, decide_eq_true_eq, decide_eq_false_iff_not, Bool.not_eq_true', Bool.not_eq_false', Bool.and_eq_true, Bool.and_eq_false_iff, Bool.true_eq_false, Bool.false_eq_true, Bool.not_true, Bool.not_false, eq_self]; omega) ?_
      obtain ⟨nm, en, ns⟩ := bent_name a1 b1
      exact To.ret ⟨rfl, t1, nm, k, ye, dr, by simp only [X.den, X.dens, X.denss, D.int_i, D.boo_b, D.str_s, D.rows_l, List.getD_cons_zero, List.getD_cons_succ, List.cons_append, List.nil_append, List.append_nil, List.length_cons, List.length_nil, en], ns, h1⟩
    refine To.ite (fun c => ?_) (fun c => ?_)
    · refine To.viaK (by (try simp (disch := omega) only [X.den, X.dens, X.denss, D.int_i, D.boo_b, D.str_s, D.rows_l, List.getD_cons_zero, List.getD_cons_succ, List.cons_append, List.nil_append, List.append_nil, List.length_cons, List.length_nil, decide_eq_true_eq, decide_eq_false_iff_not, Bool.not_eq_true', Bool.not_eq_false', Bool.and_eq_true, Bool.and_eq_false_iff, Bool.true_eq_false, Bool.false_eq_true, Bool.not_true, Bool.not_false, eq_self, D.len_l, wr64, not_true_eq_false, not_false_eq_true]); exact srcN_to h0 (by omega) (by omega)) ?_
      rintro _ ρ2 ⟨r, t1, rfl, a1, b1, h1⟩ eρ
      refine ⟨rfl, ?_⟩
      simp only [List.cons_append, List.nil_append] at eρ
      subst eρ
      refine To.need (by simp only [X.den, X.dens, X.denss, D.int_i, D.boo_b, D.str_s, D.rows_l, List.getD_cons_zero, List.getD_cons_succ, List.cons_append, List.nil_append, List.append_nil, List.length_cons, List.length_nil, decide_eq_true_eq, decide_eq_false_iff_not, Bool.not_eq_true', Bool.not_eq_false', Bool.and_eq_true, Bool.and_eq_false_iff, Bool.true_eq_false, Bool.false_eq_true, Bool.not_true, Bool.not_false, eq_self]; omega) ?_
      obtain ⟨g, eg⟩ := three (p := fun r => ∃ g : Int, (D.l [[.i 0], [.i 4], [.i (-1)]]).cell r 0 = .i g) a1 b1 ⟨0, rfl⟩ ⟨4, rfl⟩ ⟨-1, rfl⟩
      exact To.ret ⟨rfl, t1, b, g, ye, dr, by simp only [X.den, X.dens, X.denss, D.int_i, D.boo_b, D.str_s, D.rows_l, List.getD_cons_zero, List.getD_cons_succ, List.cons_append, List.nil_append, List.append_nil, List.length_cons, List.length_nil, eg], hb, h1⟩
    refine To.ite (fun c => ?_) (fun c => ?_)
    · refine To.viaK (by (try simp (disch := omega) only [X.den, X.dens, X.denss, D.int_i, D.boo_b, D.str_s, D.rows_l, List.getD_cons_zero, List.getD_cons_succ, List.cons_append, List.nil_append, List.append_nil, List.length_cons, List.length_nil, decide_eq_true_eq, decide_eq_false_iff_not, Bool.not_eq_true', Bool.not_eq_false', Bool.and_eq_true, Bool.and_eq_false_iff, Bool.true_eq_false, Bool.false_eq_true, Bool.not_true, Bool.not_false, eq_self, D.len_l, wr64, not_true_eq_false, not_false_eq_true]); exact srcN_to h0 (by omega) (by omega)) ?_
      rintro _ ρ2 ⟨r, t1, rfl, a1, b1, h1⟩ eρ
      refine ⟨rfl, ?_⟩
      simp only [List.cons_append, List.nil_append] at eρ
      subst eρ
      refine To.need (by simp only [X.den, X.dens, X.denss, D.int_i, D.boo_b, D.str_s, D.rows_l, List.getD_cons_zero, List.getD_cons_succ, List.cons_append, List.nil_append, List.append_nil, List.length_cons, List.length_nil, decide_eq_true_eq, decide_eq_false_iff_not, Bool.not_eq_true', Bool.not_eq_false', Bool.and_eq_true, Bool.and_eq_false_iff, Bool.true_eq_false, Bool.false_eq_true, Bool.not_true, Bool.not_false, eq_self]; omega) ?_
      obtain ⟨g, eg⟩ := two (p := fun r => ∃ g : Int, (D.l [[.i (-1)], [.i 1001]]).cell r 0 = .i g) a1 b1 ⟨-1, rfl⟩ ⟨1001, rfl⟩
      exact To.ret ⟨rfl, t1, b, k, ye, g, by simp only [X.den, X.dens, X.denss, D.int_i, D.boo_b, D.str_s, D.rows_l, List.getD_cons_zero, List.getD_cons_succ, List.cons_append, List.nil_append, List.append_nil, List.length_cons, List.length_nil, eg], hb, h1⟩
    · refine To.viaK (by (try simp (disch := omega) only [X.den, X.dens, X.denss, D.int_i, D.boo_b, D.str_s, D.rows_l, List.getD_cons_zero, List.getD_cons_succ, List.cons_append, List.nil_append, List.append_nil, List.length_cons, List.length_nil, decide_eq_true_eq, decide_eq_false_iff_not, Bool.not_eq_true', Bool.not_eq_false', Bool.and_eq_true, Bool.and_eq_false_iff, Bool.true_eq_false, Bool.false_eq_true, Bool.not_true, Bool.not_false, eq_self, D.len_l, wr64, not_true_eq_false, not_false_eq_true]); exact srcN_to h0 (by omega) (by omega)) ?_
      rintro _ ρ2 ⟨r, t1, rfl, a1, b1, h1⟩ eρ
      refine ⟨rfl, ?_⟩
      simp only [List.cons_append, List.nil_append] at eρ
      subst eρ
      refine To.need (by simp only [X.den, X.dens, X.denss, D.int_i, D.boo_b, D.str_s, D.rows_l, List.getD_cons_zero, List.getD_cons_succ, List.cons_append, List.nil_append, List.append_nil, List.length_cons, List.length_nil, decide_eq_true_eq, decide_eq_false_iff_not, Bool.not_eq_true', Bool.not_eq_false', Bool.and_eq_true, Bool.and_eq_false_iff, Bool.true_eq_false, Bool.false_eq_true, Bool.not_true, Bool.not_false, eq_self]; omega) ?_
      obtain ⟨g, eg⟩ := three (p := fun r => ∃ g : Int, (D.l [[.i (-1)], [.i (IntKind.i64.wrap (re + 1))], [.i 1000001]]).cell r 0 = .i g) a1 b1 ⟨_, rfl⟩ ⟨_, rfl⟩ ⟨_, rfl⟩
      exact To.ret ⟨rfl, t1, b, k, g, dr, by simp only [X.den, X.dens, X.denss, D.int_i, D.boo_b, D.str_s, D.rows_l, List.getD_cons_zero, List.getD_cons_succ, List.cons_append, List.nil_append, List.append_nil, List.length_cons, List.length_nil, eg], hb, h1⟩
  rintro l ρ2 ⟨t, b', k', ye', dr', rfl, hb', ht⟩ eρ
  simp only [List.cons_append, List.nil_append] at eρ
  subst eρ
  exact To.ret ⟨b', k', x, y, ye', re, dr', t, by simp only [X.den, X.dens, X.denss, D.int_i, D.boo_b, D.str_s, D.rows_l, List.getD_cons_zero, List.getD_cons_succ, List.cons_append, List.nil_append, List.append_nil, List.length_cons, List.length_nil], hb', ht⟩
noncomputable def oeM : Models := Models.on srcN_K.f (srcN_T.run noM 0) (Models.on srcOp_K.f (srcOp_T.run srcM 0) (Models.on srcBent_K.f (srcBent_T.run srcM 0) (Models.on opCheck_K.f (opCheck_T.run ckM 0) (Models.on roCheck_K.f (roCheck_T.run rkM 0) (Models.on opFit_K.f (opFit_T.run ckM1 0) (Models.on roFit_K.f (roFit_T.run rkM1 0) (Models.on opNext_K.f (opNext_T.run nxM 0) (Models.on roNext_K.f (roNext_T.run rnxM 0) (Models.on opAsk_K.f (opAsk_T.run akM 10) (Models.on roAsk_K.f (roAsk_T.run rkM1 0) (Models.on zones_K.f (zones_T.run srcM 100) (Models.on opRun_K.f (opRun_T.run rnM 2000) (Models.on roRun_K.f (roRun_T.run rrnM 2000) (Models.on ints_K.f (ints_T.run noM 2000) (Models.on sane30_K.f (fun _ => some [.b true]) noM)))))))))))))))
def OeC (nm : ByteArray) (l m : List (List D)) : Prop := nm.size ≤ 9223372036854775807 ∧ (∃ zs, l = nums zs) ∧ ∃ zs, m = nums zs
open Classical in
noncomputable def oeR : List D → Option (List D) := fun ds => match ds with
  | [.l rows, .s nm, .i k, .i x, .i y, .i ye, .i re, .i dr, .i st, .i lv, .i zo, .i rq, .b dn, .l l, .l m] => if OeC nm l m then some [.b true] else none
  | _ => none
set_option maxHeartbeats 8000000 in
theorem oe_ok : ConOk Tryd.prog opExact_K oeR :=
  con_of follows (M := oeM) (one_con (srcN_ok.to _) (one_con (srcOp_ok.to _) (one_con (srcBent_ok.to _) (one_con (opCheck_ok.to _) (one_con (roCheck_ok.to _) (one_con (opFit_ok.to _) (one_con (roFit_ok.to _) (one_con (opNext_ok.to _) (one_con (roNext_ok.to _) (one_con (opAsk_ok.to _) (one_con (roAsk_ok.to _) (one_con (zones_ok.to _) (one_con (opRun_ok.to _) (one_con (roRun_ok.to _) (one_con (ints_ok.to _) (one_con (sane30_ok.to _) no_cons)))))))))))))))) opExact_t fun ds outs hl h => by
    unfold oeR at h
    split at h
    · rename_i rows nm k0 x0 y0 ye0 re0 dr0 st lv zo rq dn l m
      split at h
      · rename_i hb
        injection h with h
        subst h
        obtain ⟨hn, ⟨ls, rfl⟩, ms, rfl⟩ := hb
        refine ⟨fun i l h k => by simp [opExact_K] at k, 10, ?_⟩
        unfold opExact_T
        refine To.joinK (fun o => ∃ v, o = [.b v] ∧ (v = false → nm.size ≤ 40 ∧ ls.length ≤ 450 ∧ ms.length ≤ 450)) ?_ ?_
        · (repeat' (first
              
              | (refine To.subK (fun K hK => ?_))
              | (refine To.need (by simp (disch := omega) only [X.den, X.dens, X.denss, D.int_i, D.boo_b, D.str_s, D.rows_l, List.getD_cons_zero, List.getD_cons_succ, List.cons_append, List.nil_append, List.append_nil, List.length_cons, List.length_nil, decide_eq_true_eq, decide_eq_false_iff_not, Bool.not_eq_true', Bool.not_eq_false', Bool.and_eq_true, Bool.and_eq_false_iff, Bool.true_eq_false, Bool.false_eq_true, Bool.not_true, Bool.not_false, eq_self, D.len_l, wr64, not_true_eq_false, not_false_eq_true, nums_len, slen_s] <;> omega) ?_)
              | (refine To.ite (fun c => ?_) (fun c => ?_) <;> ((try simp (disch := omega) only [X.den, X.dens, X.denss, D.int_i, D.boo_b, D.str_s, D.rows_l, List.getD_cons_zero, List.getD_cons_succ, List.cons_append, List.nil_append, List.append_nil, List.length_cons, List.length_nil, decide_eq_true_eq, decide_eq_false_iff_not, Bool.not_eq_true', Bool.not_eq_false', Bool.and_eq_true, Bool.and_eq_false_iff, Bool.true_eq_false, Bool.false_eq_true, Bool.not_true, Bool.not_false, eq_self, D.len_l, wr64, not_true_eq_false, not_false_eq_true, nums_len, slen_s] at c) <;> (try (exfalso; omega))))
              | (refine To.ret ⟨rfl, ?_⟩; (try simp (disch := omega) only [X.den, X.dens, X.denss, D.int_i, D.boo_b, D.str_s, D.rows_l, List.getD_cons_zero, List.getD_cons_succ, List.cons_append, List.nil_append, List.append_nil, List.length_cons, List.length_nil, decide_eq_true_eq, decide_eq_false_iff_not, Bool.not_eq_true', Bool.not_eq_false', Bool.and_eq_true, Bool.and_eq_false_iff, Bool.true_eq_false, Bool.false_eq_true, Bool.not_true, Bool.not_false, eq_self, D.len_l, wr64, not_true_eq_false, not_false_eq_true, nums_len, slen_s]); refine hK _ _ (by simp only [List.cons_append, List.nil_append]; first | done | rfl) ?_; clear hK; clear K)))
          all_goals
            refine To.ret ⟨rfl, _, by simp only [X.den, X.dens, X.denss, D.int_i, D.boo_b, D.str_s, D.rows_l, List.getD_cons_zero, List.getD_cons_succ, List.cons_append, List.nil_append, List.append_nil, List.length_cons, List.length_nil]; rfl, fun h => ?_⟩
            (try simp only [decide_eq_true_eq, decide_eq_false_iff_not, Bool.not_eq_true', Bool.not_eq_false', Bool.and_eq_true, Bool.and_eq_false_iff, Bool.true_eq_false, Bool.false_eq_true, Bool.not_true, Bool.not_false, eq_self, D.len_l, nums_len] at h) <;> omega
        rintro o ρ2 ⟨v, rfl, hv⟩ eρ
        simp only [List.cons_append, List.nil_append] at eρ
        subst eρ
        refine To.ite (fun c => ?_) (fun c => ?_) <;> simp only [X.den, X.dens, X.denss, D.int_i, D.boo_b, D.str_s, D.rows_l, List.getD_cons_zero, List.getD_cons_succ, List.cons_append, List.nil_append, List.append_nil, List.length_cons, List.length_nil] at c
        · refine To.callK (l := [.b true]) rfl rfl _ (by simp only [List.cons_append, List.nil_append]; first | done | rfl) ?_
          exact To.ret (by simp only [X.den, X.dens, X.denss, D.int_i, D.boo_b, D.str_s, D.rows_l, List.getD_cons_zero, List.getD_cons_succ, List.cons_append, List.nil_append, List.append_nil, List.length_cons, List.length_nil])
        obtain ⟨n40, n1, n2⟩ := hv c
        refine To.need (by simp only [X.den, X.dens, X.denss, D.int_i, D.boo_b, D.str_s, D.rows_l, List.getD_cons_zero, List.getD_cons_succ, List.cons_append, List.nil_append, List.append_nil, List.length_cons, List.length_nil, decide_eq_true_eq, decide_eq_false_iff_not, Bool.not_eq_true', Bool.not_eq_false', Bool.and_eq_true, Bool.and_eq_false_iff, Bool.true_eq_false, Bool.false_eq_true, Bool.not_true, Bool.not_false, eq_self, D.len_l]; omega) ?_
        refine To.viaK (by (try simp (disch := omega) only [X.den, X.dens, X.denss, D.int_i, D.boo_b, D.str_s, D.rows_l, List.getD_cons_zero, List.getD_cons_succ, List.cons_append, List.nil_append, List.append_nil, List.length_cons, List.length_nil, decide_eq_true_eq, decide_eq_false_iff_not, Bool.not_eq_true', Bool.not_eq_false', Bool.and_eq_true, Bool.and_eq_false_iff, Bool.true_eq_false, Bool.false_eq_true, Bool.not_true, Bool.not_false, eq_self, D.len_l, wr64, not_true_eq_false, not_false_eq_true]); exact srcOp_to src_take30) ?_
        rintro _ ρ2 ⟨b1, k1, x1, y1, ye1, re1, dr1, t1, rfl, ok1, h1⟩ eρ
        refine ⟨rfl, ?_⟩
        simp only [List.cons_append, List.nil_append] at eρ
        subst eρ
        generalize (List.take _ _ : List (List D)) = rs at h1 ⊢
        refine To.viaK (by (try simp (disch := omega) only [X.den, X.dens, X.denss, D.int_i, D.boo_b, D.str_s, D.rows_l, List.getD_cons_zero, List.getD_cons_succ, List.cons_append, List.nil_append, List.append_nil, List.length_cons, List.length_nil, decide_eq_true_eq, decide_eq_false_iff_not, Bool.not_eq_true', Bool.not_eq_false', Bool.and_eq_true, Bool.and_eq_false_iff, Bool.true_eq_false, Bool.false_eq_true, Bool.not_true, Bool.not_false, eq_self, D.len_l, wr64, not_true_eq_false, not_false_eq_true]); exact srcBent_to h1 ok1.1) ?_
        rintro _ ρ2 ⟨b2, k2, x2, y2, ye2, re2, dr2, t2, rfl, ok2, h2⟩ eρ
        refine ⟨rfl, ?_⟩
        simp only [List.cons_append, List.nil_append] at eρ
        subst eρ
        refine To.loopK (fun m o => ∃ t i : Int, o = [.l rs, .i t, .i i] ∧ SrcOk rs t ∧ 0 ≤ i ∧ i + m = 3) (fun o => ∃ z1 z2 z3 z4 z5 z6 z7 z8 z9, o = [.i 1, z1, z2, z3, z4, z5, z6, z7, z8, z9]) 3 (by omega) ?_ ?_ ?_
        · exact ⟨t2, 0, by simp only [X.den, X.dens, X.denss, D.int_i, D.boo_b, D.str_s, D.rows_l, List.getD_cons_zero, List.getD_cons_succ, List.cons_append, List.nil_append, List.append_nil, List.length_cons, List.length_nil], h2, by omega, by omega⟩
        · rintro m o ρ2 ⟨t3, i, rfl, h3, i0, i1⟩ eρ
          simp only [List.cons_append, List.nil_append] at eρ
          subst eρ
          refine To.ite (fun c => ?_) (fun c => ?_) <;> simp only [X.den, X.dens, X.denss, D.int_i, D.boo_b, D.str_s, D.rows_l, List.getD_cons_zero, List.getD_cons_succ, List.cons_append, List.nil_append, List.append_nil, List.length_cons, List.length_nil, decide_eq_true_eq, decide_eq_false_iff_not, Bool.not_eq_true', Bool.not_eq_false', Bool.and_eq_true, Bool.and_eq_false_iff, Bool.true_eq_false, Bool.false_eq_true, Bool.not_true, Bool.not_false, eq_self] at c
          · refine To.joinK (fun o => ∃ t rest, o = .i 0 :: .l rs :: .i t :: rest ∧ SrcOk rs t) ?_ ?_
            · refine To.joinK (fun o => ∃ (b : ByteArray) (k x y ye re dr : Int), o = [.s b, .i k, .i x, .i y, .i ye, .i re, .i dr, .s b, .i k, .i x, .i y, .i ye, .i re, .i dr] ∧ b.size ≤ 1000) ?_ ?_
              · refine To.ite (fun c => To.ret ⟨rfl, b1, k1, x1, y1, ye1, re1, dr1, rfl, ok1.1⟩) (fun c => To.ite (fun c => To.ret ⟨rfl, b2, k2, x2, y2, ye2, re2, dr2, rfl, ok2⟩) (fun c => To.ret ⟨rfl, nm, k0, x0, y0, ye0, re0, dr0, rfl, by omega⟩))
              rintro o ρ2 ⟨b, k, x, y, ye, re, dr, rfl, hb⟩ eρ
              simp only [List.cons_append, List.nil_append] at eρ
              subst eρ
              refine To.viaK (by (try simp (disch := omega) only [X.den, X.dens, X.denss, D.int_i, D.boo_b, D.str_s, D.rows_l, List.getD_cons_zero, List.getD_cons_succ, List.cons_append, List.nil_append, List.append_nil, List.length_cons, List.length_nil, decide_eq_true_eq, decide_eq_false_iff_not, Bool.not_eq_true', Bool.not_eq_false', Bool.and_eq_true, Bool.and_eq_false_iff, Bool.true_eq_false, Bool.false_eq_true, Bool.not_true, Bool.not_false, eq_self, D.len_l, wr64, not_true_eq_false, not_false_eq_true]); exact chk_to hb) ?_
              rintro _ ρ2 rfl eρ
              refine ⟨rfl, ?_⟩
              simp only [List.cons_append, List.nil_append] at eρ
              subst eρ
              refine To.viaK (by (try simp (disch := omega) only [X.den, X.dens, X.denss, D.int_i, D.boo_b, D.str_s, D.rows_l, List.getD_cons_zero, List.getD_cons_succ, List.cons_append, List.nil_append, List.append_nil, List.length_cons, List.length_nil, decide_eq_true_eq, decide_eq_false_iff_not, Bool.not_eq_true', Bool.not_eq_false', Bool.and_eq_true, Bool.and_eq_false_iff, Bool.true_eq_false, Bool.false_eq_true, Bool.not_true, Bool.not_false, eq_self, D.len_l, wr64, not_true_eq_false, not_false_eq_true]); exact rchk_to hb) ?_
              rintro _ ρ2 rfl eρ
              refine ⟨rfl, ?_⟩
              simp only [List.cons_append, List.nil_append] at eρ
              subst eρ
              refine To.yes (by simp only [X.den, X.dens, X.denss, D.int_i, D.boo_b, D.str_s, D.rows_l, List.getD_cons_zero, List.getD_cons_succ, List.cons_append, List.nil_append, List.append_nil, List.length_cons, List.length_nil]; simp) ?_
              refine To.viaK (by (try simp (disch := omega) only [X.den, X.dens, X.denss, D.int_i, D.boo_b, D.str_s, D.rows_l, List.getD_cons_zero, List.getD_cons_succ, List.cons_append, List.nil_append, List.append_nil, List.length_cons, List.length_nil, decide_eq_true_eq, decide_eq_false_iff_not, Bool.not_eq_true', Bool.not_eq_false', Bool.and_eq_true, Bool.and_eq_false_iff, Bool.true_eq_false, Bool.false_eq_true, Bool.not_true, Bool.not_false, eq_self, D.len_l, wr64, not_true_eq_false, not_false_eq_true]); exact srcN_to h3 (by omega) (by omega)) ?_
              rintro _ ρ2 ⟨g1, u1, rfl, p1, q1, f1⟩ eρ
              refine ⟨rfl, ?_⟩
              simp only [List.cons_append, List.nil_append] at eρ
              subst eρ
              refine To.viaK (by (try simp (disch := omega) only [X.den, X.dens, X.denss, D.int_i, D.boo_b, D.str_s, D.rows_l, List.getD_cons_zero, List.getD_cons_succ, List.cons_append, List.nil_append, List.append_nil, List.length_cons, List.length_nil, decide_eq_true_eq, decide_eq_false_iff_not, Bool.not_eq_true', Bool.not_eq_false', Bool.and_eq_true, Bool.and_eq_false_iff, Bool.true_eq_false, Bool.false_eq_true, Bool.not_true, Bool.not_false, eq_self, D.len_l, wr64, not_true_eq_false, not_false_eq_true]); exact srcN_to f1 (by omega) (by omega)) ?_
              rintro _ ρ2 ⟨g2, u2, rfl, p2, q2, f2⟩ eρ
              refine ⟨rfl, ?_⟩
              simp only [List.cons_append, List.nil_append] at eρ
              subst eρ
              refine To.viaK (by (try simp (disch := omega) only [X.den, X.dens, X.denss, D.int_i, D.boo_b, D.str_s, D.rows_l, List.getD_cons_zero, List.getD_cons_succ, List.cons_append, List.nil_append, List.append_nil, List.length_cons, List.length_nil, decide_eq_true_eq, decide_eq_false_iff_not, Bool.not_eq_true', Bool.not_eq_false', Bool.and_eq_true, Bool.and_eq_false_iff, Bool.true_eq_false, Bool.false_eq_true, Bool.not_true, Bool.not_false, eq_self, D.len_l, wr64, not_true_eq_false, not_false_eq_true]); exact srcN_to f2 (by omega) (by omega)) ?_
              rintro _ ρ2 ⟨g3, u3, rfl, p3, q3, f3⟩ eρ
              refine ⟨rfl, ?_⟩
              simp only [List.cons_append, List.nil_append] at eρ
              subst eρ
              refine To.viaK (by (try simp (disch := omega) only [X.den, X.dens, X.denss, D.int_i, D.boo_b, D.str_s, D.rows_l, List.getD_cons_zero, List.getD_cons_succ, List.cons_append, List.nil_append, List.append_nil, List.length_cons, List.length_nil, decide_eq_true_eq, decide_eq_false_iff_not, Bool.not_eq_true', Bool.not_eq_false', Bool.and_eq_true, Bool.and_eq_false_iff, Bool.true_eq_false, Bool.false_eq_true, Bool.not_true, Bool.not_false, eq_self, D.len_l, wr64, not_true_eq_false, not_false_eq_true]); exact srcN_to f3 (by omega) (by omega)) ?_
              rintro _ ρ2 ⟨g4, u4, rfl, p4, q4, f4⟩ eρ
              refine ⟨rfl, ?_⟩
              simp only [List.cons_append, List.nil_append] at eρ
              subst eρ
              refine To.viaK (by (try simp (disch := omega) only [X.den, X.dens, X.denss, D.int_i, D.boo_b, D.str_s, D.rows_l, List.getD_cons_zero, List.getD_cons_succ, List.cons_append, List.nil_append, List.append_nil, List.length_cons, List.length_nil, decide_eq_true_eq, decide_eq_false_iff_not, Bool.not_eq_true', Bool.not_eq_false', Bool.and_eq_true, Bool.and_eq_false_iff, Bool.true_eq_false, Bool.false_eq_true, Bool.not_true, Bool.not_false, eq_self, D.len_l, wr64, not_true_eq_false, not_false_eq_true]); exact srcN_to f4 (by omega) (by omega)) ?_
              rintro _ ρ2 ⟨g5, u5, rfl, p5, q5, f5⟩ eρ
              refine ⟨rfl, ?_⟩
              simp only [List.cons_append, List.nil_append] at eρ
              subst eρ
              refine To.viaK (by (try simp (disch := omega) only [X.den, X.dens, X.denss, D.int_i, D.boo_b, D.str_s, D.rows_l, List.getD_cons_zero, List.getD_cons_succ, List.cons_append, List.nil_append, List.append_nil, List.length_cons, List.length_nil, decide_eq_true_eq, decide_eq_false_iff_not, Bool.not_eq_true', Bool.not_eq_false', Bool.and_eq_true, Bool.and_eq_false_iff, Bool.true_eq_false, Bool.false_eq_true, Bool.not_true, Bool.not_false, eq_self, D.len_l, wr64, not_true_eq_false, not_false_eq_true]); exact srcN_to f5 (by omega) (by omega)) ?_
              rintro _ ρ2 ⟨g6, u6, rfl, p6, q6, f6⟩ eρ
              refine ⟨rfl, ?_⟩
              simp only [List.cons_append, List.nil_append] at eρ
              subst eρ
              refine To.viaK (by (try simp (disch := omega) only [X.den, X.dens, X.denss, D.int_i, D.boo_b, D.str_s, D.rows_l, List.getD_cons_zero, List.getD_cons_succ, List.cons_append, List.nil_append, List.append_nil, List.length_cons, List.length_nil, decide_eq_true_eq, decide_eq_false_iff_not, Bool.not_eq_true', Bool.not_eq_false', Bool.and_eq_true, Bool.and_eq_false_iff, Bool.true_eq_false, Bool.false_eq_true, Bool.not_true, Bool.not_false, eq_self, D.len_l, wr64, not_true_eq_false, not_false_eq_true]); exact srcN_to f6 (by omega) (by omega)) ?_
              rintro _ ρ2 ⟨g7, u7, rfl, p7, q7, f7⟩ eρ
              refine ⟨rfl, ?_⟩
              simp only [List.cons_append, List.nil_append] at eρ
              subst eρ
              refine To.viaK (by (try simp (disch := omega) only [X.den, X.dens, X.denss, D.int_i, D.boo_b, D.str_s, D.rows_l, List.getD_cons_zero, List.getD_cons_succ, List.cons_append, List.nil_append, List.append_nil, List.length_cons, List.length_nil, decide_eq_true_eq, decide_eq_false_iff_not, Bool.not_eq_true', Bool.not_eq_false', Bool.and_eq_true, Bool.and_eq_false_iff, Bool.true_eq_false, Bool.false_eq_true, Bool.not_true, Bool.not_false, eq_self, D.len_l, wr64, not_true_eq_false, not_false_eq_true]); exact srcN_to f7 (by omega) (by omega)) ?_
              rintro _ ρ2 ⟨g8, u8, rfl, p8, q8, f8⟩ eρ
              refine ⟨rfl, ?_⟩
              simp only [List.cons_append, List.nil_append] at eρ
              subst eρ
              refine To.loopK (fun m o => ∃ j : Int, o = [.i j] ∧ 0 ≤ j ∧ j + m = 3) (fun o => ∃ r1 r2 r3 r4 r5 r6 r7 r8 r9 r10 r11 r12 r13 r14 r15 r16 r17 r18 r19 r20 r21 r22 r23 r24 r25 r26 r27 r28 r29 r30 r31 r32 r33 r34 r35 r36 r37 r38 r39 r40 r41 r42 r43 r44 r45 r46 r47 r48 r49 r50 r51 r52 r53 r54 r55 r56 r57 r58 r59 r60 r61 r62 r63 r64 r65 r66 r67, o = [.i 1, r1, r2, r3, r4, r5, r6, r7, r8, r9, r10, r11, r12, r13, r14, r15, r16, r17, r18, r19, r20, r21, r22, r23, r24, r25, r26, r27, r28, r29, r30, r31, r32, r33, r34, r35, r36, r37, r38, r39, r40, r41, r42, r43, r44, r45, r46, r47, r48, r49, r50, r51, r52, r53, r54, r55, r56, r57, r58, r59, r60, r61, r62, r63, r64, r65, r66, r67]) 3 (by omega) ?_ ?_ ?_
              · exact ⟨0, by simp only [X.den, X.dens, X.denss, D.int_i, D.boo_b, D.str_s, D.rows_l, List.getD_cons_zero, List.getD_cons_succ, List.cons_append, List.nil_append, List.append_nil, List.length_cons, List.length_nil], by omega, by omega⟩
              · rintro m o ρ2 ⟨j, rfl, j0, j1⟩ eρ
                simp only [List.cons_append, List.nil_append] at eρ
                subst eρ
                refine To.ite (fun c => ?_) (fun c => ?_) <;> simp only [X.den, X.dens, X.denss, D.int_i, D.boo_b, D.str_s, D.rows_l, List.getD_cons_zero, List.getD_cons_succ, List.cons_append, List.nil_append, List.append_nil, List.length_cons, List.length_nil, decide_eq_true_eq, decide_eq_false_iff_not, Bool.not_eq_true', Bool.not_eq_false', Bool.and_eq_true, Bool.and_eq_false_iff, Bool.true_eq_false, Bool.false_eq_true, Bool.not_true, Bool.not_false, eq_self] at c
                · refine To.joinK (fun o => ∃ s l z r : Int, o = [.i s, .i l, .i z, .i r, .i s, .i l, .i z, .i r]) ?_ ?_
                  · refine To.ite (fun c => To.ret ⟨rfl, st, lv, zo, rq, rfl⟩) (fun c => To.ite (fun c => To.ret ⟨rfl, _, _, _, _, rfl⟩) (fun c => To.ret ⟨rfl, _, _, _, _, rfl⟩))
                  rintro o ρ2 ⟨s, l, z, r, rfl⟩ eρ
                  simp only [List.cons_append, List.nil_append] at eρ
                  subst eρ
                  refine To.viaK (by (try simp (disch := omega) only [X.den, X.dens, X.denss, D.int_i, D.boo_b, D.str_s, D.rows_l, List.getD_cons_zero, List.getD_cons_succ, List.cons_append, List.nil_append, List.append_nil, List.length_cons, List.length_nil, decide_eq_true_eq, decide_eq_false_iff_not, Bool.not_eq_true', Bool.not_eq_false', Bool.and_eq_true, Bool.and_eq_false_iff, Bool.true_eq_false, Bool.false_eq_true, Bool.not_true, Bool.not_false, eq_self, D.len_l, wr64, not_true_eq_false, not_false_eq_true]); exact next_to hb) ?_
                  rintro _ ρ2 rfl eρ
                  refine ⟨rfl, ?_⟩
                  simp only [List.cons_append, List.nil_append] at eρ
                  subst eρ
                  refine To.viaK (by (try simp (disch := omega) only [X.den, X.dens, X.denss, D.int_i, D.boo_b, D.str_s, D.rows_l, List.getD_cons_zero, List.getD_cons_succ, List.cons_append, List.nil_append, List.append_nil, List.length_cons, List.length_nil, decide_eq_true_eq, decide_eq_false_iff_not, Bool.not_eq_true', Bool.not_eq_false', Bool.and_eq_true, Bool.and_eq_false_iff, Bool.true_eq_false, Bool.false_eq_true, Bool.not_true, Bool.not_false, eq_self, D.len_l, wr64, not_true_eq_false, not_false_eq_true]); exact rnext_to hb) ?_
                  rintro _ ρ2 rfl eρ
                  refine ⟨rfl, ?_⟩
                  simp only [List.cons_append, List.nil_append] at eρ
                  subst eρ
                  refine To.viaK (by (try simp (disch := omega) only [X.den, X.dens, X.denss, D.int_i, D.boo_b, D.str_s, D.rows_l, List.getD_cons_zero, List.getD_cons_succ, List.cons_append, List.nil_append, List.append_nil, List.length_cons, List.length_nil, decide_eq_true_eq, decide_eq_false_iff_not, Bool.not_eq_true', Bool.not_eq_false', Bool.and_eq_true, Bool.and_eq_false_iff, Bool.true_eq_false, Bool.false_eq_true, Bool.not_true, Bool.not_false, eq_self, D.len_l, wr64, not_true_eq_false, not_false_eq_true]); exact ask_to hb) ?_
                  rintro _ ρ2 rfl eρ
                  refine ⟨rfl, ?_⟩
                  simp only [List.cons_append, List.nil_append] at eρ
                  subst eρ
                  refine To.viaK (by (try simp (disch := omega) only [X.den, X.dens, X.denss, D.int_i, D.boo_b, D.str_s, D.rows_l, List.getD_cons_zero, List.getD_cons_succ, List.cons_append, List.nil_append, List.append_nil, List.length_cons, List.length_nil, decide_eq_true_eq, decide_eq_false_iff_not, Bool.not_eq_true', Bool.not_eq_false', Bool.and_eq_true, Bool.and_eq_false_iff, Bool.true_eq_false, Bool.false_eq_true, Bool.not_true, Bool.not_false, eq_self, D.len_l, wr64, not_true_eq_false, not_false_eq_true]); exact rask_to hb) ?_
                  rintro _ ρ2 rfl eρ
                  refine ⟨rfl, ?_⟩
                  simp only [List.cons_append, List.nil_append] at eρ
                  subst eρ
                  refine To.joinK (fun o => ∃ z1 z2 z3 z4 z5 z6, o = [z1, z2, z3, z4, z5, z6, .b false]) ?_ ?_
                  · refine To.yes (by simp only [X.den, X.dens, X.denss, D.int_i, D.boo_b, D.str_s, D.rows_l, List.getD_cons_zero, List.getD_cons_succ, List.cons_append, List.nil_append, List.append_nil, List.length_cons, List.length_nil]; simp) ?_
                    refine To.yes (by simp only [X.den, X.dens, X.denss, D.int_i, D.boo_b, D.str_s, D.rows_l, List.getD_cons_zero, List.getD_cons_succ, List.cons_append, List.nil_append, List.append_nil, List.length_cons, List.length_nil]; simp) ?_
                    refine To.yes (by simp only [X.den, X.dens, X.denss, D.int_i, D.boo_b, D.str_s, D.rows_l, List.getD_cons_zero, List.getD_cons_succ, List.cons_append, List.nil_append, List.append_nil, List.length_cons, List.length_nil]; simp) ?_
                    refine To.yes (by simp only [X.den, X.dens, X.denss, D.int_i, D.boo_b, D.str_s, D.rows_l, List.getD_cons_zero, List.getD_cons_succ, List.cons_append, List.nil_append, List.append_nil, List.length_cons, List.length_nil]; simp) ?_
                    refine To.viaK (by (try simp (disch := omega) only [X.den, X.dens, X.denss, D.int_i, D.boo_b, D.str_s, D.rows_l, List.getD_cons_zero, List.getD_cons_succ, List.cons_append, List.nil_append, List.append_nil, List.length_cons, List.length_nil, decide_eq_true_eq, decide_eq_false_iff_not, Bool.not_eq_true', Bool.not_eq_false', Bool.and_eq_true, Bool.and_eq_false_iff, Bool.true_eq_false, Bool.false_eq_true, Bool.not_true, Bool.not_false, eq_self, D.len_l, wr64, not_true_eq_false, not_false_eq_true]); exact fit_to hb) ?_
                    rintro _ ρ2 rfl eρ
                    refine ⟨rfl, ?_⟩
                    simp only [List.cons_append, List.nil_append] at eρ
                    subst eρ
                    refine To.viaK (by (try simp (disch := omega) only [X.den, X.dens, X.denss, D.int_i, D.boo_b, D.str_s, D.rows_l, List.getD_cons_zero, List.getD_cons_succ, List.cons_append, List.nil_append, List.append_nil, List.length_cons, List.length_nil, decide_eq_true_eq, decide_eq_false_iff_not, Bool.not_eq_true', Bool.not_eq_false', Bool.and_eq_true, Bool.and_eq_false_iff, Bool.true_eq_false, Bool.false_eq_true, Bool.not_true, Bool.not_false, eq_self, D.len_l, wr64, not_true_eq_false, not_false_eq_true]); exact rfit_to hb) ?_
                    rintro _ ρ2 rfl eρ
                    refine ⟨rfl, ?_⟩
                    simp only [List.cons_append, List.nil_append] at eρ
                    subst eρ
                    refine To.ret ⟨rfl, ?_⟩
                    simp only [X.den, X.dens, X.denss, D.int_i, D.boo_b, D.str_s, D.rows_l, List.getD_cons_zero, List.getD_cons_succ, List.cons_append, List.nil_append, List.append_nil, List.length_cons, List.length_nil, beq_self_eq_true, Bool.not_true]
                    exact ⟨_, _, _, _, _, _, rfl⟩
                  rintro o ρ2 ⟨z1, z2, z3, z4, z5, z6, rfl⟩ eρ
                  simp only [List.cons_append, List.nil_append] at eρ
                  subst eρ
                  refine To.no rfl (To.ret (.inl ⟨rfl, m - 1, by omega, j + 1, ?_, by omega, by omega⟩))
                  simp only [X.den, X.dens, X.denss, D.int_i, D.boo_b, D.str_s, D.rows_l, List.getD_cons_zero, List.getD_cons_succ, List.cons_append, List.nil_append, List.append_nil, List.length_cons, List.length_nil]
                · exact To.ret (.inr ⟨rfl, _, _, _, _, _, _, _, _, _, _, _, _, _, _, _, _, _, _, _, _, _, _, _, _, _, _, _, _, _, _, _, _, _, _, _, _, _, _, _, _, _, _, _, _, _, _, _, _, _, _, _, _, _, _, _, _, _, _, _, _, _, _, _, _, _, _, _, rfl⟩)
              rintro o ρ2 ⟨r1, r2, r3, r4, r5, r6, r7, r8, r9, r10, r11, r12, r13, r14, r15, r16, r17, r18, r19, r20, r21, r22, r23, r24, r25, r26, r27, r28, r29, r30, r31, r32, r33, r34, r35, r36, r37, r38, r39, r40, r41, r42, r43, r44, r45, r46, r47, r48, r49, r50, r51, r52, r53, r54, r55, r56, r57, r58, r59, r60, r61, r62, r63, r64, r65, r66, r67, rfl⟩ eρ
              simp only [List.cons_append, List.nil_append] at eρ
              subst eρ
              refine ⟨rfl, To.no rfl ?_⟩
              refine To.viaK (by (try simp (disch := omega) only [X.den, X.dens, X.denss, D.int_i, D.boo_b, D.str_s, D.rows_l, List.getD_cons_zero, List.getD_cons_succ, List.cons_append, List.nil_append, List.append_nil, List.length_cons, List.length_nil, decide_eq_true_eq, decide_eq_false_iff_not, Bool.not_eq_true', Bool.not_eq_false', Bool.and_eq_true, Bool.and_eq_false_iff, Bool.true_eq_false, Bool.false_eq_true, Bool.not_true, Bool.not_false, eq_self, D.len_l, wr64, not_true_eq_false, not_false_eq_true]); exact zones_to f8 (by omega)) ?_
              rintro _ ρ2 ⟨zl, zz, t4, rfl, en, em, qa, qb, h4⟩ eρ
              refine ⟨rfl, ?_⟩
              simp only [List.cons_append, List.nil_append] at eρ
              subst eρ
              refine To.loopK (fun m o => ∃ t i : Int, o = [.l rs, .i t, .i i] ∧ SrcOk rs t ∧ 0 ≤ i ∧ i + m = 3) (fun o => ∃ t rest, o = .i 1 :: .l rs :: .i t :: rest ∧ rest.length = 35 ∧ SrcOk rs t) 3 (by omega) ?_ ?_ ?_
              · exact ⟨t4, 0, by simp only [X.den, X.dens, X.denss, D.int_i, D.boo_b, D.str_s, D.rows_l, List.getD_cons_zero, List.getD_cons_succ, List.cons_append, List.nil_append, List.append_nil, List.length_cons, List.length_nil], h4, by omega, by omega⟩
              · rintro m o ρ2 ⟨t5, j, rfl, h5, j0, j1⟩ eρ
                simp only [List.cons_append, List.nil_append] at eρ
                subst eρ
                refine To.ite (fun c => ?_) (fun c => ?_) <;> simp only [X.den, X.dens, X.denss, D.int_i, D.boo_b, D.str_s, D.rows_l, List.getD_cons_zero, List.getD_cons_succ, List.cons_append, List.nil_append, List.append_nil, List.length_cons, List.length_nil, decide_eq_true_eq, decide_eq_false_iff_not, Bool.not_eq_true', Bool.not_eq_false', Bool.and_eq_true, Bool.and_eq_false_iff, Bool.true_eq_false, Bool.false_eq_true, Bool.not_true, Bool.not_false, eq_self] at c
                · refine To.joinK (fun o => ∃ us ws : List Int, o = [.l (nums us), .l (nums ws), .l (nums us), .l (nums ws)] ∧ us.length ≤ 1000 ∧ ws.length ≤ 1000) ?_ ?_
                  · refine To.ite (fun c => To.ret ⟨rfl, ls, ms, rfl, by omega, by omega⟩) (fun c => To.ite (fun c => To.ret ⟨rfl, zl, zz, rfl, by omega, by omega⟩) (fun c => To.ret ⟨rfl, zl, ms, rfl, by omega, by omega⟩))
                  rintro o ρ2 ⟨us, ws, rfl, hu, hw⟩ eρ
                  simp only [List.cons_append, List.nil_append] at eρ
                  subst eρ
                  refine To.viaK (by (try simp (disch := omega) only [X.den, X.dens, X.denss, D.int_i, D.boo_b, D.str_s, D.rows_l, List.getD_cons_zero, List.getD_cons_succ, List.cons_append, List.nil_append, List.append_nil, List.length_cons, List.length_nil, decide_eq_true_eq, decide_eq_false_iff_not, Bool.not_eq_true', Bool.not_eq_false', Bool.and_eq_true, Bool.and_eq_false_iff, Bool.true_eq_false, Bool.false_eq_true, Bool.not_true, Bool.not_false, eq_self, D.len_l, wr64, not_true_eq_false, not_false_eq_true]); exact srcN_to h5 (by omega) (by omega)) ?_
                  rintro _ ρ2 ⟨g9, t6, rfl, p9, q9, h6⟩ eρ
                  refine ⟨rfl, ?_⟩
                  simp only [List.cons_append, List.nil_append] at eρ
                  subst eρ
                  refine To.viaK (by (try simp (disch := omega) only [X.den, X.dens, X.denss, D.int_i, D.boo_b, D.str_s, D.rows_l, List.getD_cons_zero, List.getD_cons_succ, List.cons_append, List.nil_append, List.append_nil, List.length_cons, List.length_nil, decide_eq_true_eq, decide_eq_false_iff_not, Bool.not_eq_true', Bool.not_eq_false', Bool.and_eq_true, Bool.and_eq_false_iff, Bool.true_eq_false, Bool.false_eq_true, Bool.not_true, Bool.not_false, eq_self, D.len_l, wr64, not_true_eq_false, not_false_eq_true]); exact run_full hb hu hw) ?_
                  rintro _ ρ2 rfl eρ
                  refine ⟨rfl, ?_⟩
                  simp only [List.cons_append, List.nil_append] at eρ
                  subst eρ
                  refine To.viaK (by (try simp (disch := omega) only [X.den, X.dens, X.denss, D.int_i, D.boo_b, D.str_s, D.rows_l, List.getD_cons_zero, List.getD_cons_succ, List.cons_append, List.nil_append, List.append_nil, List.length_cons, List.length_nil, decide_eq_true_eq, decide_eq_false_iff_not, Bool.not_eq_true', Bool.not_eq_false', Bool.and_eq_true, Bool.and_eq_false_iff, Bool.true_eq_false, Bool.false_eq_true, Bool.not_true, Bool.not_false, eq_self, D.len_l, wr64, not_true_eq_false, not_false_eq_true]); exact rrun_full hb hu hw) ?_
                  rintro _ ρ2 rfl eρ
                  refine ⟨rfl, ?_⟩
                  simp only [List.cons_append, List.nil_append] at eρ
                  subst eρ
                  have hlen := runOut_len (N := Nf b k x y ye re dr) (s := g9) (ls := us) (zs := ws) hu
                  generalize runOut (Nf b k x y ye re dr) g9 us ws = ro at hlen ⊢
                  refine To.joinK (fun o => o = [.b false]) ?_ ?_
                  · refine To.yes (by simp only [X.den, X.dens, X.denss, D.int_i, D.boo_b, D.str_s, D.rows_l, List.getD_cons_zero, List.getD_cons_succ, List.cons_append, List.nil_append, List.append_nil, List.length_cons, List.length_nil]; simp) ?_
                    refine To.viaK (by (try simp (disch := omega) only [X.den, X.dens, X.denss, D.int_i, D.boo_b, D.str_s, D.rows_l, List.getD_cons_zero, List.getD_cons_succ, List.cons_append, List.nil_append, List.append_nil, List.length_cons, List.length_nil, decide_eq_true_eq, decide_eq_false_iff_not, Bool.not_eq_true', Bool.not_eq_false', Bool.and_eq_true, Bool.and_eq_false_iff, Bool.true_eq_false, Bool.false_eq_true, Bool.not_true, Bool.not_false, eq_self, D.len_l, wr64, not_true_eq_false, not_false_eq_true]); exact ints_same hlen) ?_
                    rintro _ ρ2 rfl eρ
                    refine ⟨rfl, ?_⟩
                    simp only [List.cons_append, List.nil_append] at eρ
                    subst eρ
                    exact To.ret ⟨rfl, by simp only [X.den, X.dens, X.denss, D.int_i, D.boo_b, D.str_s, D.rows_l, List.getD_cons_zero, List.getD_cons_succ, List.cons_append, List.nil_append, List.append_nil, List.length_cons, List.length_nil]; rfl⟩
                  rintro o ρ2 rfl eρ
                  simp only [List.cons_append, List.nil_append] at eρ
                  subst eρ
                  refine To.no rfl (To.ret (.inl ⟨rfl, m - 1, by omega, t6, j + 1, ?_, h6, by omega, by omega⟩))
                  simp only [X.den, X.dens, X.denss, D.int_i, D.boo_b, D.str_s, D.rows_l, List.getD_cons_zero, List.getD_cons_succ, List.cons_append, List.nil_append, List.append_nil, List.length_cons, List.length_nil]
                · exact To.ret (.inr ⟨rfl, t5, _, rfl, rfl, h5⟩)
              · rintro o ρ2 ⟨t6, rest, rfl, hr, h6⟩ eρ
                simp only [List.cons_append, List.nil_append] at eρ
                subst eρ
                exact ⟨by simp [hr], To.no rfl (To.ret ⟨rfl, t6, _, rfl, h6⟩)⟩
            rintro o ρ2 ⟨t7, rest, rfl, h7⟩ eρ
            simp only [List.cons_append, List.nil_append] at eρ
            subst eρ
            refine To.yes rfl (To.ret (.inl ⟨rfl, m - 1, by omega, t7, i + 1, ?_, h7, by omega, by omega⟩))
            simp only [X.den, X.dens, X.denss, D.int_i, D.boo_b, D.str_s, D.rows_l, List.getD_cons_zero, List.getD_cons_succ, List.cons_append, List.nil_append, List.append_nil, List.length_cons, List.length_nil]
          · exact To.ret (.inr ⟨rfl, _, _, _, _, _, _, _, _, _, rfl⟩)
        · rintro o ρ2 ⟨z1, z2, z3, z4, z5, z6, z7, z8, z9, rfl⟩ eρ
          simp only [List.cons_append, List.nil_append] at eρ
          subst eρ
          refine ⟨rfl, To.no rfl ?_⟩
          refine To.callK (l := [.b true]) rfl rfl _ (by simp only [List.cons_append, List.nil_append]; first | done | rfl) ?_
          exact To.ret (by simp only [X.den, X.dens, X.denss, D.int_i, D.boo_b, D.str_s, D.rows_l, List.getD_cons_zero, List.getD_cons_succ, List.cons_append, List.nil_append, List.append_nil, List.length_cons, List.length_nil])
      · cases h
    · cases h
theorem rows_nums : ∀ {l : List (List D)}, (∀ row ∈ l, WfR [.int .i64] row) → ∃ zs, l = nums zs
  | [], _ => ⟨[], rfl⟩
  | r :: l, h => by
    obtain ⟨zs, rfl⟩ := rows_nums (l := l) fun row hr => h row (List.mem_cons_of_mem _ hr)
    have hr := h r (List.mem_cons_self ..)
    simp only [WfR, WfC] at hr
    obtain ⟨d, ds', rfl, ⟨z, rfl, _⟩, rfl⟩ := hr
    exact ⟨z :: zs, rfl⟩
def OperationExact_ps : List PK := opExact_K.ps
theorem OperationExact_all : Fx.LawOk Tryd.prog 3 OperationExact_ps :=
  law_all oe_ok rfl (by kernel_rfl) fun ds hw => by
    have hw' : WfR [.sl [.int .i64], .str, .int .i64, .int .i64, .int .i64, .int .i64, .int .i64, .int .i64, .int .i64, .int .i64, .int .i64, .int .i64, .bool, .sl [.int .i64], .sl [.int .i64]] ds := hw
    rw [WfR] at hw'
    obtain ⟨d0, ds0, rfl, c0, hw'⟩ := hw'
    obtain ⟨d1, ds1, rfl, c1, hw'⟩ := hw'
    obtain ⟨d2, ds2, rfl, c2, hw'⟩ := hw'
    obtain ⟨d3, ds3, rfl, c3, hw'⟩ := hw'
    obtain ⟨d4, ds4, rfl, c4, hw'⟩ := hw'
    obtain ⟨d5, ds5, rfl, c5, hw'⟩ := hw'
    obtain ⟨d6, ds6, rfl, c6, hw'⟩ := hw'
    obtain ⟨d7, ds7, rfl, c7, hw'⟩ := hw'
    obtain ⟨d8, ds8, rfl, c8, hw'⟩ := hw'
    obtain ⟨d9, ds9, rfl, c9, hw'⟩ := hw'
    obtain ⟨d10, ds10, rfl, c10, hw'⟩ := hw'
    obtain ⟨d11, ds11, rfl, c11, hw'⟩ := hw'
    obtain ⟨d12, ds12, rfl, c12, hw'⟩ := hw'
    obtain ⟨d13, ds13, rfl, c13, hw'⟩ := hw'
    obtain ⟨d14, ds14, rfl, c14, hw'⟩ := hw'
    obtain rfl : ds14 = [] := by simpa only [WfR] using hw'
    simp only [WfC] at c0 c1 c2 c3 c4 c5 c6 c7 c8 c9 c10 c11 c12 c13 c14
    obtain ⟨rows, rfl, _, _⟩ := c0
    obtain ⟨nm, rfl, hn⟩ := c1
    obtain ⟨z2, rfl, _⟩ := c2
    obtain ⟨z3, rfl, _⟩ := c3
    obtain ⟨z4, rfl, _⟩ := c4
    obtain ⟨z5, rfl, _⟩ := c5
    obtain ⟨z6, rfl, _⟩ := c6
    obtain ⟨z7, rfl, _⟩ := c7
    obtain ⟨z8, rfl, _⟩ := c8
    obtain ⟨z9, rfl, _⟩ := c9
    obtain ⟨z10, rfl, _⟩ := c10
    obtain ⟨z11, rfl, _⟩ := c11
    obtain ⟨b12, rfl⟩ := c12
    obtain ⟨l13, rfl, _, w13⟩ := c13
    obtain ⟨l14, rfl, _, w14⟩ := c14
    exact if_pos ⟨by simpa [maxLen] using hn, rows_nums w13, rows_nums w14⟩
end Go.Proofs.YtkapaokcgbgjfaaDoor
