/- OperationLeaves. -/
import Derived.Test.YtkapaokcgbgjfaaDoorOpl
set_option linter.unusedVariables false
set_option linter.unusedSimpArgs false
namespace Go.Proofs.YtkapaokcgbgjfaaDoor
open Go.RowKit Fx
def opLeaves_K : Con := ⟨4, [.val false [.sl [.int .i64]]], [.val false [.bool]], []⟩
def opLeaves_T : T (List X) :=
  (.ite (.lt (.N 600) (.len (.V 0)))
  (.call 9 [] 1
   (.ret [(.V 1)]))
  (.need (.not (.lt (.len (.V 0)) (.mn (.len (.V 0)) (.N 600))))
   (.call 11 [(.take (.V 0) (.mn (.len (.V 0)) (.N 600))), (.N 0)] 9
    (.call 15 [(.V 8), (.V 9), (.N 2)] 3
     (.need (.and (.not (.lt (.V 10) (.N 0))) (.lt (.V 10) (.N 2)))
      (.loop [(.V 11), (.V 12), (.at (.rows [[(.N 4)], [(.N 5)]]) (.V 10) 0), (.N 0)]
       (.ite (.lt (.V 16) (.N 12))
        (.call 15 [(.V 13), (.V 14), (.N 4)] 3
         (.need (.and (.not (.lt (.V 17) (.N 0))) (.lt (.V 17) (.N 4)))
          (.call 15 [(.V 18), (.V 19), (.N 3)] 3
           (.call 15 [(.V 21), (.V 22), (.N 3)] 3
            (.sub (.call 19 [(.V 1), (.V 2), (.V 3), (.V 4), (.V 5), (.V 6), (.V 7), (.V 15), (.wr .i64 (.add (.N 1) (.V 20))), (.wr .i64 (.add (.N 1) (.V 23))), (.at (.rows [[(.N 0)], [(.N 1)], [(.N 2)], [(.N 3)]]) (.V 17) 0)] 2
              (.ite (.eq (.V 27) (.N 0))
               (.ret [(.V 26), (.V 26), (.V 27), (.V 26), (.V 27), (.V 26), (.V 27), (.V 26), (.V 27), (.V 27), (.eq (.V 27) (.N 0))])
               (.ret [(.V 15), (.V 26), (.V 27), (.V 26), (.V 27), (.V 26), (.V 27), (.V 26), (.V 27), (.V 27), (.eq (.V 27) (.N 0))]))) 11
             (.call 15 [(.V 24), (.V 25), (.N 3)] 3
              (.call 17 [(.V 1), (.V 2), (.V 3), (.V 4), (.V 5), (.V 6), (.V 7), (.V 26), (.wr .i64 (.add (.N 1) (.V 20))), (.wr .i64 (.add (.N 1) (.V 23))), (.eq (.V 37) (.N 2))] 2
               (.sub (.ite (.eq (.V 41) (.N 0))
                 (.ite (.eq (.V 40) (.N 4))
                  (.ite (.eq (.V 26) (.N 5))
                   (.ret [(.B false), (.B false), (.not (.eq (.V 40) (.V 26)))])
                   (.ret [(.B false), (.B false), (.B false)]))
                  (.ite (.eq (.V 40) (.N 5))
                   (.ite (.eq (.V 26) (.N 5))
                    (.ret [(.not (.eq (.V 40) (.N 5))), (.not (.eq (.V 40) (.N 5))), (.not (.eq (.V 40) (.V 26)))])
                    (.ret [(.not (.eq (.V 40) (.N 5))), (.not (.eq (.V 40) (.N 5))), (.B false)]))
                   (.ret [(.not (.eq (.V 40) (.N 5))), (.not (.eq (.V 40) (.N 5))), (.B true)])))
                 (.ret [(.B true), (.B true), (.B true)])) 3
                (.ite (.V 44)
                 (.ret (false, [(.N 0), (.V 38), (.V 39)]))
                 (.ret (true, [(.V 38), (.V 39), (.V 40), (.add (.V 16) (.N 1))])))))))))))
        (.ret (false, [(.N 1), (.V 13), (.V 14)]))) 3
       (.ite (.eq (.V 13) (.N 0))
        (.ret [(.B false)])
        (.call 9 [] 1
         (.ret [(.V 16)])))))))))
set_option maxRecDepth 100000 in
theorem opLeaves_t : runS Tryd.prog [srcN_K.to [], srcOp_K.to [], opNext_K.to [], opAsk_K.to [], sane30_K.to []] [4] opLeaves_K = opLeaves_T := by kernel_rfl
noncomputable def olM : Models := Models.on srcN_K.f (srcN_T.run noM 0) (Models.on srcOp_K.f (srcOp_T.run srcM 0) (Models.on opNext_K.f (opNext_T.run nxM 0) (Models.on opAsk_K.f (opAsk_T.run akM 10) (Models.on sane30_K.f (fun _ => some [.b true]) noM))))
theorem next_leave {k s l z : Int} {d : Bool} (hs : s = 4 ∨ s = 5) : (nextV k s l z d = 4 ∨ nextV k s l z d = 5) ∧ (s = 5 → nextV k s l z d = 5) := by
  unfold nextV
  constructor
  · (repeat' split) <;> omega
  · intro h
    subst h
    rw [if_neg (by omega), if_neg (by omega), if_neg (by omega)]
theorem ask_leave {k s l z r : Int} (hs : s = 4 ∨ s = 5) (hr : 0 ≤ r ∧ r ≤ 3) : askE k s l z r = 0 → askV k s l z r = s := by
  unfold askV askE
  (repeat' split) <;> omega
theorem OperationLeaves_ok : ConOk Tryd.prog opLeaves_K fun ds => match ds with | [.l _] => some [.b true] | _ => none :=
  con_of follows (M := olM) (one_con (srcN_ok.to _) (one_con (srcOp_ok.to _) (one_con (opNext_ok.to _) (one_con (opAsk_ok.to _) (one_con (sane30_ok.to _) no_cons))))) opLeaves_t fun ds outs hl h => by
    split at h
    · rename_i rows
      injection h with h
      subst h
      refine ⟨fun i l h k => by simp [opLeaves_K] at k, 20, ?_⟩
      unfold opLeaves_T
      refine To.ite (fun c => ?_) (fun c => ?_)
      · refine To.callK (l := [.b true]) rfl rfl _ (by simp only [List.cons_append, List.nil_append]; first | done | rfl) ?_
        exact To.ret (by simp only [X.den, X.dens, X.denss, D.int_i, D.boo_b, D.str_s, D.rows_l, List.getD_cons_zero, List.getD_cons_succ, List.cons_append, List.nil_append, List.append_nil, List.length_cons, List.length_nil])
      · refine To.need (by simp only [X.den, X.dens, X.denss, D.int_i, D.boo_b, D.str_s, D.rows_l, List.getD_cons_zero, List.getD_cons_succ, List.cons_append, List.nil_append, List.append_nil, List.length_cons, List.length_nil, decide_eq_true_eq, decide_eq_false_iff_not, Bool.not_eq_true', Bool.not_eq_false', Bool.and_eq_true, Bool.and_eq_false_iff, Bool.true_eq_false, Bool.false_eq_true, Bool.not_true, Bool.not_false, eq_self, D.len_l]; omega) ?_
        refine To.viaK (by (try simp (disch := omega) only [X.den, X.dens, X.denss, D.int_i, D.boo_b, D.str_s, D.rows_l, List.getD_cons_zero, List.getD_cons_succ, List.cons_append, List.nil_append, List.append_nil, List.length_cons, List.length_nil, decide_eq_true_eq, decide_eq_false_iff_not, Bool.not_eq_true', Bool.not_eq_false', Bool.and_eq_true, Bool.and_eq_false_iff, Bool.true_eq_false, Bool.false_eq_true, Bool.not_true, Bool.not_false, eq_self, D.len_l, wr64, not_true_eq_false, not_false_eq_true]); exact srcOp_to src_take30) ?_
        rintro _ ρ2 ⟨b, k, x, y, ye, re, dr, t0, rfl, ok, h0⟩ eρ
        refine ⟨rfl, ?_⟩
        simp only [List.cons_append, List.nil_append] at eρ
        subst eρ
        refine To.viaK (by (try simp (disch := omega) only [X.den, X.dens, X.denss, D.int_i, D.boo_b, D.str_s, D.rows_l, List.getD_cons_zero, List.getD_cons_succ, List.cons_append, List.nil_append, List.append_nil, List.length_cons, List.length_nil, decide_eq_true_eq, decide_eq_false_iff_not, Bool.not_eq_true', Bool.not_eq_false', Bool.and_eq_true, Bool.and_eq_false_iff, Bool.true_eq_false, Bool.false_eq_true, Bool.not_true, Bool.not_false, eq_self, D.len_l, wr64, not_true_eq_false, not_false_eq_true]); exact srcN_to h0 (by omega) (by omega)) ?_
        rintro _ ρ2 ⟨s0, t1, rfl, a1, b1, h1⟩ eρ
        refine ⟨rfl, ?_⟩
        simp only [List.cons_append, List.nil_append] at eρ
        subst eρ
        refine To.need (by simp only [X.den, X.dens, X.denss, D.int_i, D.boo_b, D.str_s, D.rows_l, List.getD_cons_zero, List.getD_cons_succ, List.cons_append, List.nil_append, List.append_nil, List.length_cons, List.length_nil, decide_eq_true_eq, decide_eq_false_iff_not, Bool.not_eq_true', Bool.not_eq_false', Bool.and_eq_true, Bool.and_eq_false_iff, Bool.true_eq_false, Bool.false_eq_true, Bool.not_true, Bool.not_false, eq_self]; omega) ?_
        obtain ⟨s1, es, hs1⟩ := two (p := fun r => ∃ g : Int, (D.l [[.i 4], [.i 5]]).cell r 0 = .i g ∧ (g = 4 ∨ g = 5)) a1 b1 ⟨4, rfl, by decide⟩ ⟨5, rfl, by decide⟩
        generalize (rows.take (min (min (rows.length : Int) 9223372036854775807) 600).toNat) = R at h1 ⊢
        refine To.loopK (fun m o => ∃ t s i : Int, o = [.l R, .i t, .i s, .i i] ∧ SrcOk R t ∧ (s = 4 ∨ s = 5) ∧ 0 ≤ i ∧ i + m = 12) (fun o => ∃ t, o = [.i 1, .l R, .i t]) 12 (by omega) ?_ ?_ ?_
        · exact ⟨t1, s1, 0, by simp only [X.den, X.dens, X.denss, D.int_i, D.boo_b, D.str_s, D.rows_l, List.getD_cons_zero, List.getD_cons_succ, List.cons_append, List.nil_append, List.append_nil, List.length_cons, List.length_nil, es], h1, hs1, by omega, by omega⟩
        · rintro m o ρ2 ⟨t2, s, i, rfl, h2, hs, i0, i1⟩ eρ
          simp only [List.cons_append, List.nil_append] at eρ
          subst eρ
          refine To.ite (fun c => ?_) (fun c => ?_) <;> simp only [X.den, X.dens, X.denss, D.int_i, D.boo_b, D.str_s, D.rows_l, List.getD_cons_zero, List.getD_cons_succ, List.cons_append, List.nil_append, List.append_nil, List.length_cons, List.length_nil, decide_eq_true_eq, decide_eq_false_iff_not, Bool.not_eq_true', Bool.not_eq_false', Bool.and_eq_true, Bool.and_eq_false_iff, Bool.true_eq_false, Bool.false_eq_true, Bool.not_true, Bool.not_false, eq_self] at c
          · refine To.viaK (by (try simp (disch := omega) only [X.den, X.dens, X.denss, D.int_i, D.boo_b, D.str_s, D.rows_l, List.getD_cons_zero, List.getD_cons_succ, List.cons_append, List.nil_append, List.append_nil, List.length_cons, List.length_nil, decide_eq_true_eq, decide_eq_false_iff_not, Bool.not_eq_true', Bool.not_eq_false', Bool.and_eq_true, Bool.and_eq_false_iff, Bool.true_eq_false, Bool.false_eq_true, Bool.not_true, Bool.not_false, eq_self, D.len_l, wr64, not_true_eq_false, not_false_eq_true]); exact srcN_to h2 (by omega) (by omega)) ?_
            rintro _ ρ2 ⟨q, t3, rfl, a3, b3, h3⟩ eρ
            refine ⟨rfl, ?_⟩
            simp only [List.cons_append, List.nil_append] at eρ
            subst eρ
            refine To.need (by simp only [X.den, X.dens, X.denss, D.int_i, D.boo_b, D.str_s, D.rows_l, List.getD_cons_zero, List.getD_cons_succ, List.cons_append, List.nil_append, List.append_nil, List.length_cons, List.length_nil, decide_eq_true_eq, decide_eq_false_iff_not, Bool.not_eq_true', Bool.not_eq_false', Bool.and_eq_true, Bool.and_eq_false_iff, Bool.true_eq_false, Bool.false_eq_true, Bool.not_true, Bool.not_false, eq_self]; omega) ?_
            obtain ⟨r, er, hr⟩ := four (p := fun r => ∃ g : Int, (D.l [[.i 0], [.i 1], [.i 2], [.i 3]]).cell r 0 = .i g ∧ 0 ≤ g ∧ g ≤ 3) a3 b3 ⟨0, rfl, by decide⟩ ⟨1, rfl, by decide⟩ ⟨2, rfl, by decide⟩ ⟨3, rfl, by decide⟩
            refine To.viaK (by (try simp (disch := omega) only [X.den, X.dens, X.denss, D.int_i, D.boo_b, D.str_s, D.rows_l, List.getD_cons_zero, List.getD_cons_succ, List.cons_append, List.nil_append, List.append_nil, List.length_cons, List.length_nil, decide_eq_true_eq, decide_eq_false_iff_not, Bool.not_eq_true', Bool.not_eq_false', Bool.and_eq_true, Bool.and_eq_false_iff, Bool.true_eq_false, Bool.false_eq_true, Bool.not_true, Bool.not_false, eq_self, D.len_l, wr64, not_true_eq_false, not_false_eq_true]); exact srcN_to h3 (by omega) (by omega)) ?_
            rintro _ ρ2 ⟨l, t4, rfl, a4, b4, h4⟩ eρ
            refine ⟨rfl, ?_⟩
            simp only [List.cons_append, List.nil_append] at eρ
            subst eρ
            refine To.viaK (by (try simp (disch := omega) only [X.den, X.dens, X.denss, D.int_i, D.boo_b, D.str_s, D.rows_l, List.getD_cons_zero, List.getD_cons_succ, List.cons_append, List.nil_append, List.append_nil, List.length_cons, List.length_nil, decide_eq_true_eq, decide_eq_false_iff_not, Bool.not_eq_true', Bool.not_eq_false', Bool.and_eq_true, Bool.and_eq_false_iff, Bool.true_eq_false, Bool.false_eq_true, Bool.not_true, Bool.not_false, eq_self, D.len_l, wr64, not_true_eq_false, not_false_eq_true]); exact srcN_to h4 (by omega) (by omega)) ?_
            rintro _ ρ2 ⟨z, t5, rfl, a5, b5, h5⟩ eρ
            refine ⟨rfl, ?_⟩
            simp only [List.cons_append, List.nil_append] at eρ
            subst eρ
            have la := ask_leave (k := k) (l := 1 + l) (z := 1 + z) hs hr
            generalize hE : askE k s (1 + l) (1 + z) r = e at la
            generalize hV : askV k s (1 + l) (1 + z) r = v at la
            (repeat' (first
                | (refine To.viaK (by (try simp (disch := omega) only [X.den, X.dens, X.denss, D.int_i, D.boo_b, D.str_s, D.rows_l, List.getD_cons_zero, List.getD_cons_succ, List.cons_append, List.nil_append, List.append_nil, List.length_cons, List.length_nil, decide_eq_true_eq, decide_eq_false_iff_not, Bool.not_eq_true', Bool.not_eq_false', Bool.and_eq_true, Bool.and_eq_false_iff, Bool.true_eq_false, Bool.false_eq_true, Bool.not_true, Bool.not_false, eq_self, D.len_l, wr64, not_true_eq_false, not_false_eq_true, er, hE, hV]); first | exact ask_v ok (by omega) (by omega) (by omega) (by omega)) ?_; rintro _ ρ2 rfl eρ; refine ⟨rfl, ?_⟩; simp only [List.cons_append, List.nil_append] at eρ; subst eρ)
                | (refine To.subK (fun K hK => ?_))
                | (refine To.need (by simp (disch := omega) only [X.den, X.dens, X.denss, D.int_i, D.boo_b, D.str_s, D.rows_l, List.getD_cons_zero, List.getD_cons_succ, List.cons_append, List.nil_append, List.append_nil, List.length_cons, List.length_nil, decide_eq_true_eq, decide_eq_false_iff_not, Bool.not_eq_true', Bool.not_eq_false', Bool.and_eq_true, Bool.and_eq_false_iff, Bool.true_eq_false, Bool.false_eq_true, Bool.not_true, Bool.not_false, eq_self, D.len_l, wr64, not_true_eq_false, not_false_eq_true, er, hE, hV] <;> omega) ?_)
                | (refine To.ite (fun c => ?_) (fun c => ?_) <;> ((try simp (disch := omega) only [X.den, X.dens, X.denss, D.int_i, D.boo_b, D.str_s, D.rows_l, List.getD_cons_zero, List.getD_cons_succ, List.cons_append, List.nil_append, List.append_nil, List.length_cons, List.length_nil, decide_eq_true_eq, decide_eq_false_iff_not, Bool.not_eq_true', Bool.not_eq_false', Bool.and_eq_true, Bool.and_eq_false_iff, Bool.true_eq_false, Bool.false_eq_true, Bool.not_true, Bool.not_false, eq_self, D.len_l, wr64, not_true_eq_false, not_false_eq_true, er, hE, hV] at c) <;> (try (exfalso; omega))))
                | (refine To.ret ⟨rfl, ?_⟩; (try simp (disch := omega) only [X.den, X.dens, X.denss, D.int_i, D.boo_b, D.str_s, D.rows_l, List.getD_cons_zero, List.getD_cons_succ, List.cons_append, List.nil_append, List.append_nil, List.length_cons, List.length_nil, decide_eq_true_eq, decide_eq_false_iff_not, Bool.not_eq_true', Bool.not_eq_false', Bool.and_eq_true, Bool.and_eq_false_iff, Bool.true_eq_false, Bool.false_eq_true, Bool.not_true, Bool.not_false, eq_self, D.len_l, wr64, not_true_eq_false, not_false_eq_true, er, hE, hV]); refine hK _ _ (by simp only [List.cons_append, List.nil_append]; first | done | rfl) ?_; clear hK; clear K)))
            all_goals
              refine To.viaK (by (try simp (disch := omega) only [X.den, X.dens, X.denss, D.int_i, D.boo_b, D.str_s, D.rows_l, List.getD_cons_zero, List.getD_cons_succ, List.cons_append, List.nil_append, List.append_nil, List.length_cons, List.length_nil, decide_eq_true_eq, decide_eq_false_iff_not, Bool.not_eq_true', Bool.not_eq_false', Bool.and_eq_true, Bool.and_eq_false_iff, Bool.true_eq_false, Bool.false_eq_true, Bool.not_true, Bool.not_false, eq_self, D.len_l, wr64, not_true_eq_false, not_false_eq_true]); exact srcN_to h5 (by omega) (by omega)) ?_
              rintro _ ρ2 ⟨d, t6, rfl, a6, b6, h6⟩ eρ
              refine ⟨rfl, ?_⟩
              simp only [List.cons_append, List.nil_append] at eρ
              subst eρ
              have n1 := next_leave (k := k) (s := s) (l := 1 + l) (z := 1 + z) (d := decide (d = 2)) hs
              try rw [la (by assumption)]
              generalize hN : nextV k s (1 + l) (1 + z) (decide (d = 2)) = n at n1
              (repeat' (first
                  | (refine To.viaK (by (try simp (disch := omega) only [X.den, X.dens, X.denss, D.int_i, D.boo_b, D.str_s, D.rows_l, List.getD_cons_zero, List.getD_cons_succ, List.cons_append, List.nil_append, List.append_nil, List.length_cons, List.length_nil, decide_eq_true_eq, decide_eq_false_iff_not, Bool.not_eq_true', Bool.not_eq_false', Bool.and_eq_true, Bool.and_eq_false_iff, Bool.true_eq_false, Bool.false_eq_true, Bool.not_true, Bool.not_false, eq_self, D.len_l, wr64, not_true_eq_false, not_false_eq_true, hN]); first | exact next_v ok (by omega) (by omega) (by omega)) ?_; rintro _ ρ2 rfl eρ; refine ⟨rfl, ?_⟩; simp only [List.cons_append, List.nil_append] at eρ; subst eρ)
                  | (refine To.subK (fun K hK => ?_))
                  | (refine To.need (by simp (disch := omega) only [X.den, X.dens, X.denss, D.int_i, D.boo_b, D.str_s, D.rows_l, List.getD_cons_zero, List.getD_cons_succ, List.cons_append, List.nil_append, List.append_nil, List.length_cons, List.length_nil, decide_eq_true_eq, decide_eq_false_iff_not, Bool.not_eq_true', Bool.not_eq_false', Bool.and_eq_true, Bool.and_eq_false_iff, Bool.true_eq_false, Bool.false_eq_true, Bool.not_true, Bool.not_false, eq_self, D.len_l, wr64, not_true_eq_false, not_false_eq_true, hN] <;> omega) ?_)
                  | (refine To.ite (fun c => ?_) (fun c => ?_) <;> ((try simp (disch := omega) only [X.den, X.dens, X.denss, D.int_i, D.boo_b, D.str_s, D.rows_l, List.getD_cons_zero, List.getD_cons_succ, List.cons_append, List.nil_append, List.append_nil, List.length_cons, List.length_nil, decide_eq_true_eq, decide_eq_false_iff_not, Bool.not_eq_true', Bool.not_eq_false', Bool.and_eq_true, Bool.and_eq_false_iff, Bool.true_eq_false, Bool.false_eq_true, Bool.not_true, Bool.not_false, eq_self, D.len_l, wr64, not_true_eq_false, not_false_eq_true, hN] at c) <;> (try (exfalso; omega))))
                  | (refine To.ret ⟨rfl, ?_⟩; (try simp (disch := omega) only [X.den, X.dens, X.denss, D.int_i, D.boo_b, D.str_s, D.rows_l, List.getD_cons_zero, List.getD_cons_succ, List.cons_append, List.nil_append, List.append_nil, List.length_cons, List.length_nil, decide_eq_true_eq, decide_eq_false_iff_not, Bool.not_eq_true', Bool.not_eq_false', Bool.and_eq_true, Bool.and_eq_false_iff, Bool.true_eq_false, Bool.false_eq_true, Bool.not_true, Bool.not_false, eq_self, D.len_l, wr64, not_true_eq_false, not_false_eq_true, hN]); refine hK _ _ (by simp only [List.cons_append, List.nil_append]; first | done | rfl) ?_; clear hK; clear K)))
              all_goals first
                | (refine To.ret (.inl ⟨rfl, m - 1, by omega, ?_⟩); simp (disch := omega) only [X.den, X.dens, X.denss, D.int_i, D.boo_b, D.str_s, D.rows_l, List.getD_cons_zero, List.getD_cons_succ, List.cons_append, List.nil_append, List.append_nil, List.length_cons, List.length_nil, wr64]; exact ⟨_, _, _, rfl, h6, by omega, by omega, by omega⟩)
                | trace_state
          · exact To.ret (.inr ⟨rfl, ⟨t2, by simp only [X.den, X.dens, X.denss, D.int_i, D.boo_b, D.str_s, D.rows_l, List.getD_cons_zero, List.getD_cons_succ, List.cons_append, List.nil_append, List.append_nil, List.length_cons, List.length_nil]⟩⟩)
        · rintro o ρ2 ⟨t, rfl⟩ eρ
          simp only [List.cons_append, List.nil_append] at eρ
          subst eρ
          refine ⟨rfl, To.no rfl ?_⟩
          refine To.callK (l := [.b true]) rfl rfl _ (by simp only [List.cons_append, List.nil_append]; first | done | rfl) ?_
          exact To.ret (by simp only [X.den, X.dens, X.denss, D.int_i, D.boo_b, D.str_s, D.rows_l, List.getD_cons_zero, List.getD_cons_succ, List.cons_append, List.nil_append, List.append_nil, List.length_cons, List.length_nil])
    · cases h
theorem OperationLeaves_walk {w : World} (hgl : Gl w [] []) (v : Value) (zs : List Int) (h : IntsIn w w.heap.size v .i64 zs) (hz : ∀ z ∈ zs, (Lit.int .i64 z).wf = true) : Calls Tryd.prog 4 #[v] w fun e w' => e = .returned (.bool true) ∧ Below w.heap.size w w' :=
  con_law OperationLeaves_ok rfl (fun G hG => args_ints h hG (by trivial)) (by simp [opLeaves_K]) (ds := [numD zs]) rfl
end Go.Proofs.YtkapaokcgbgjfaaDoor
