/- OperationRuns. -/
import Derived.Test.YtkapaokcgbgjfaaDoorOpr
set_option linter.unusedVariables false
set_option linter.unusedSimpArgs false
namespace Go.Proofs.YtkapaokcgbgjfaaDoor
open Go.RowKit Fx
def opRuns_K : Con := ⟨7, [.val false [.sl [.int .i64]], .val false [.int .u8]], [.val false [.bool]], [none, some (0, 255)]⟩
def opRuns_T : T (List X) :=
  (.ite (.lt (.N 600) (.len (.V 0)))
  (.call 9 [] 1
   (.ret [(.V 2)]))
  (.need (.not (.lt (.len (.V 0)) (.mn (.len (.V 0)) (.N 600))))
   (.call 11 [(.take (.V 0) (.mn (.len (.V 0)) (.N 600))), (.N 0)] 9
    (.call 15 [(.V 9), (.V 10), (.N 6)] 3
     (.call 23 [(.V 12), (.V 13), (.N 20)] 4
      (.call 24 [(.V 2), (.V 3), (.V 4), (.V 5), (.V 6), (.V 7), (.V 8), (.V 11), (.V 14), (.V 15)] 2
       (.sub (.ite (.eq (.V 19) (.N 0))
         (.ret [(.not (.eq (.len (.V 18)) (.len (.V 14))))])
         (.ret [(.B true)])) 1
        (.ite (.V 20)
         (.ret [(.B false)])
         (.need (.not (.eq (.wr .i64 (.add (.len (.V 14)) (.N 1))) (.N 0)))
          (.need (.and (.not (.lt (.rem (.V 1) (.wr .i64 (.add (.len (.V 14)) (.N 1)))) (.N 0))) (.not (.lt (.len (.V 14)) (.rem (.V 1) (.wr .i64 (.add (.len (.V 14)) (.N 1)))))))
           (.need (.and (.not (.lt (.rem (.V 1) (.wr .i64 (.add (.len (.V 14)) (.N 1)))) (.N 0))) (.not (.lt (.len (.V 15)) (.rem (.V 1) (.wr .i64 (.add (.len (.V 14)) (.N 1)))))))
            (.call 24 [(.V 2), (.V 3), (.V 4), (.V 5), (.V 6), (.V 7), (.V 8), (.V 11), (.take (.V 14) (.rem (.V 1) (.wr .i64 (.add (.len (.V 14)) (.N 1))))), (.take (.V 15) (.rem (.V 1) (.wr .i64 (.add (.len (.V 14)) (.N 1)))))] 2
             (.ite (.eq (.len (.V 21)) (.rem (.V 1) (.wr .i64 (.add (.len (.V 14)) (.N 1)))))
              (.sub (.ite (.lt (.N 0) (.rem (.V 1) (.wr .i64 (.add (.len (.V 14)) (.N 1)))))
                (.need (.and (.not (.lt (.wr .i64 (.sub (.rem (.V 1) (.wr .i64 (.add (.len (.V 14)) (.N 1)))) (.N 1))) (.N 0))) (.lt (.wr .i64 (.sub (.rem (.V 1) (.wr .i64 (.add (.len (.V 14)) (.N 1)))) (.N 1))) (.len (.V 21))))
                 (.ret [(.at (.V 21) (.wr .i64 (.sub (.rem (.V 1) (.wr .i64 (.add (.len (.V 14)) (.N 1)))) (.N 1))) 0)]))
                (.ret [(.V 11)])) 1
               (.need (.and (.not (.lt (.rem (.V 1) (.wr .i64 (.add (.len (.V 14)) (.N 1)))) (.N 0))) (.and (.not (.lt (.len (.V 14)) (.rem (.V 1) (.wr .i64 (.add (.len (.V 14)) (.N 1)))))) (.not (.lt (.len (.V 14)) (.len (.V 14))))))
                (.need (.and (.not (.lt (.rem (.V 1) (.wr .i64 (.add (.len (.V 14)) (.N 1)))) (.N 0))) (.and (.not (.lt (.len (.V 15)) (.rem (.V 1) (.wr .i64 (.add (.len (.V 14)) (.N 1)))))) (.not (.lt (.len (.V 15)) (.len (.V 15))))))
                 (.call 24 [(.V 2), (.V 3), (.V 4), (.V 5), (.V 6), (.V 7), (.V 8), (.V 23), (.drop (.V 14) (.rem (.V 1) (.wr .i64 (.add (.len (.V 14)) (.N 1))))), (.drop (.V 15) (.rem (.V 1) (.wr .i64 (.add (.len (.V 14)) (.N 1)))))] 2
                  (.sub (.ite (.eq (.V 22) (.N 0))
                    (.ite (.eq (.V 25) (.N 0))
                     (.need (.not (.lt (.N 17592186044416) (.len (.V 21))))
                      (.need (.not (.lt (.N 17592186044416) (.add (.len (.V 21)) (.len (.V 24)))))
                       (.call 26 [(.V 18), (.app (.V 21) (.V 24))] 1
                        (.ite (.V 26)
                         (.call 9 [] 1
                          (.ret [(.V 27)]))
                         (.ret [(.B false)])))))
                     (.ret [(.B false)]))
                    (.ret [(.B false)])) 1
                   (.ret [(.V 26)]))))))
              (.ret [(.B false)]))))))))))))))
set_option maxRecDepth 100000 in
theorem opRuns_t : runS Tryd.prog [srcN_K.to [], srcOp_K.to [], zones_K.to [], opRun_K.to [], ints_K.to [], sane30_K.to []] [] opRuns_K = opRuns_T := by kernel_rfl
noncomputable def ouM : Models := Models.on srcN_K.f (srcN_T.run noM 0) (Models.on srcOp_K.f (srcOp_T.run srcM 0) (Models.on zones_K.f (zones_T.run srcM 100) (Models.on opRun_K.f (opRun_T.run rnM 2000) (Models.on ints_K.f (ints_T.run noM 2000) (Models.on sane30_K.f (fun _ => some [.b true]) noM)))))
theorem Three.take {xs : List Int} (h : Three xs) {j : Nat} : Three (xs.take j) := fun x hx => h x (List.mem_of_mem_take hx)
theorem Three.drop {xs : List Int} (h : Three xs) {j : Nat} : Three (xs.drop j) := fun x hx => h x (List.mem_of_mem_drop hx)
theorem endL_rng {k : Int} : ∀ {s : Int} {ls zs : List Int}, 0 ≤ s ∧ s ≤ 5 → 0 ≤ endL k s ls zs ∧ endL k s ls zs ≤ 5
  | s, [], zs, h => by cases zs <;> simpa [endL] using h
  | s, l :: ls, [], h => by simpa [endL] using h
  | s, l :: ls, z :: zs, h => by rw [endL]; exact endL_rng (next_rng h)
theorem OperationRuns_ok : ConOk Tryd.prog opRuns_K fun ds => match ds with | [.l _, .i a] => if 0 ≤ a ∧ a ≤ 255 then some [.b true] else none | _ => none :=
  con_of follows (M := ouM) (one_con (srcN_ok.to _) (one_con (srcOp_ok.to _) (one_con (zones_ok.to _) (one_con (opRun_ok.to _) (one_con (ints_ok.to _) (one_con (sane30_ok.to _) no_cons)))))) opRuns_t fun ds outs hl h => by
    split at h
    · rename_i rows pa
      split at h
      · rename_i hb
        injection h with h
        subst h
        refine ⟨fun i l h k => ?_, 0, ?_⟩
        · match i, k with
          | 0, k => simp [opRuns_K] at k
          | 1, k => simp [opRuns_K] at k; obtain ⟨rfl, rfl⟩ := k; simp [D.int]; omega
          | i + 2, k => simp [opRuns_K] at k
        unfold opRuns_T
        refine To.ite (fun c => ?_) (fun c => ?_)
        · refine To.callK (l := [.b true]) rfl rfl _ (by simp only [List.cons_append, List.nil_append]; first | done | rfl) ?_
          exact To.ret (by simp only [X.den, X.dens, X.denss, D.int_i, D.boo_b, D.str_s, D.rows_l, List.getD_cons_zero, List.getD_cons_succ, List.cons_append, List.nil_append, List.append_nil, List.length_cons, List.length_nil])
        · refine To.need (by simp only [X.den, X.dens, X.denss, D.int_i, D.boo_b, D.str_s, D.rows_l, List.getD_cons_zero, List.getD_cons_succ, List.cons_append, List.nil_append, List.append_nil, List.length_cons, List.length_nil, decide_eq_true_eq, decide_eq_false_iff_not, Bool.not_eq_true', Bool.not_eq_false', Bool.and_eq_true, Bool.and_eq_false_iff, Bool.true_eq_false, Bool.false_eq_true, Bool.not_true, Bool.not_false, eq_self, D.len_l]; omega) ?_
          refine To.viaK (by (try simp (disch := omega) only [X.den, X.dens, X.denss, D.int_i, D.boo_b, D.str_s, D.rows_l, List.getD_cons_zero, List.getD_cons_succ, List.cons_append, List.nil_append, List.append_nil, List.length_cons, List.length_nil, decide_eq_true_eq, decide_eq_false_iff_not, Bool.not_eq_true', Bool.not_eq_false', Bool.and_eq_true, Bool.and_eq_false_iff, Bool.true_eq_false, Bool.false_eq_true, Bool.not_true, Bool.not_false, eq_self, D.len_l, wr64, not_true_eq_false, not_false_eq_true]); exact srcOp_to src_take30) ?_
          rintro _ ρ2 ⟨b, k, x, y, ye, re, dr, t0, rfl, ok, h0⟩ eρ
          refine ⟨rfl, ?_⟩
          simp only [List.cons_append, List.nil_append] at eρ
          subst eρ
          refine To.viaK (by (try simp (disch := omega) only [X.den, X.dens, X.denss, D.int_i, D.boo_b, D.str_s, D.rows_l, List.getD_cons_zero, List.getD_cons_succ, List.cons_append, List.nil_append, List.append_nil, List.length_cons, List.length_nil, decide_eq_true_eq, decide_eq_false_iff_not, Bool.not_eq_true', Bool.not_eq_false', Bool.and_eq_true, Bool.and_eq_false_iff, Bool.true_eq_false, Bool.false_eq_true, Bool.not_true, Bool.not_false, eq_self, D.len_l, wr64, not_true_eq_false, not_false_eq_true]); exact srcN_to h0 (by omega) (by omega)) ?_
          rintro _ ρ2 ⟨s, t1, rfl, a1, b1, h1⟩ eρ
          refine ⟨rfl, ?_⟩
          simp only [List.cons_append, List.nil_append] at eρ
          subst eρ
          refine To.viaK (by (try simp (disch := omega) only [X.den, X.dens, X.denss, D.int_i, D.boo_b, D.str_s, D.rows_l, List.getD_cons_zero, List.getD_cons_succ, List.cons_append, List.nil_append, List.append_nil, List.length_cons, List.length_nil, decide_eq_true_eq, decide_eq_false_iff_not, Bool.not_eq_true', Bool.not_eq_false', Bool.and_eq_true, Bool.and_eq_false_iff, Bool.true_eq_false, Bool.false_eq_true, Bool.not_true, Bool.not_false, eq_self, D.len_l, wr64, not_true_eq_false, not_false_eq_true]); exact zones_to h1 (by omega)) ?_
          rintro _ ρ2 ⟨ls, zs, t2, rfl, en, em, q1, q2, h2⟩ eρ
          refine ⟨rfl, ?_⟩
          simp only [List.cons_append, List.nil_append] at eρ
          subst eρ
          refine To.viaK (by (try simp (disch := omega) only [X.den, X.dens, X.denss, D.int_i, D.boo_b, D.str_s, D.rows_l, List.getD_cons_zero, List.getD_cons_succ, List.cons_append, List.nil_append, List.append_nil, List.length_cons, List.length_nil, decide_eq_true_eq, decide_eq_false_iff_not, Bool.not_eq_true', Bool.not_eq_false', Bool.and_eq_true, Bool.and_eq_false_iff, Bool.true_eq_false, Bool.false_eq_true, Bool.not_true, Bool.not_false, eq_self, D.len_l, wr64, not_true_eq_false, not_false_eq_true]); exact run_v ok (by omega) en (by omega) q1 q2) ?_
          rintro _ ρ2 rfl eρ
          refine ⟨rfl, ?_⟩
          simp only [List.cons_append, List.nil_append] at eρ
          subst eρ
          obtain ⟨j, ej, j0, j1⟩ : ∃ j : Int, pa.tmod ((ls.length : Int) + 1) = j ∧ 0 ≤ j ∧ j ≤ ls.length := ⟨_, rfl, Int.tmod_nonneg _ hb.1, by have := Int.tmod_lt_of_pos pa (show 0 < (ls.length : Int) + 1 by omega); omega⟩
          have ml : min (ls.length : Int) 9223372036854775807 = ls.length := by omega
          have mz : min (zs.length : Int) 9223372036854775807 = ls.length := by omega
          have rl := runL_len (k := k) (s := s) en
          have mr : min ((runL k s ls zs).length : Int) 9223372036854775807 = ls.length := by omega
          (repeat' (first
              
              | (refine To.subK (fun K hK => ?_))
              | (refine To.need (by simp (disch := omega) only [X.den, X.dens, X.denss, D.int_i, D.boo_b, D.str_s, D.rows_l, List.getD_cons_zero, List.getD_cons_succ, List.cons_append, List.nil_append, List.append_nil, List.length_cons, List.length_nil, decide_eq_true_eq, decide_eq_false_iff_not, Bool.not_eq_true', Bool.not_eq_false', Bool.and_eq_true, Bool.and_eq_false_iff, Bool.true_eq_false, Bool.false_eq_true, Bool.not_true, Bool.not_false, eq_self, D.len_l, wr64, not_true_eq_false, not_false_eq_true, nums_len, ml, mz, mr, ej] <;> omega) ?_)
              | (refine To.ite (fun c => ?_) (fun c => ?_) <;> ((try simp (disch := omega) only [X.den, X.dens, X.denss, D.int_i, D.boo_b, D.str_s, D.rows_l, List.getD_cons_zero, List.getD_cons_succ, List.cons_append, List.nil_append, List.append_nil, List.length_cons, List.length_nil, decide_eq_true_eq, decide_eq_false_iff_not, Bool.not_eq_true', Bool.not_eq_false', Bool.and_eq_true, Bool.and_eq_false_iff, Bool.true_eq_false, Bool.false_eq_true, Bool.not_true, Bool.not_false, eq_self, D.len_l, wr64, not_true_eq_false, not_false_eq_true, nums_len, ml, mz, mr, ej] at c) <;> (try (exfalso; omega))))
              | (refine To.ret ⟨rfl, ?_⟩; (try simp (disch := omega) only [X.den, X.dens, X.denss, D.int_i, D.boo_b, D.str_s, D.rows_l, List.getD_cons_zero, List.getD_cons_succ, List.cons_append, List.nil_append, List.append_nil, List.length_cons, List.length_nil, decide_eq_true_eq, decide_eq_false_iff_not, Bool.not_eq_true', Bool.not_eq_false', Bool.and_eq_true, Bool.and_eq_false_iff, Bool.true_eq_false, Bool.false_eq_true, Bool.not_true, Bool.not_false, eq_self, D.len_l, wr64, not_true_eq_false, not_false_eq_true, nums_len, ml, mz, mr, ej]); refine hK _ _ (by simp only [List.cons_append, List.nil_append]; first | done | rfl) ?_; clear hK; clear K)))
          have jn : j.toNat ≤ ls.length := by omega
          have e1 : (ls.take j.toNat).length = (zs.take j.toNat).length := by rw [List.length_take, List.length_take]; omega
          have e2 : (ls.drop j.toNat).length = (zs.drop j.toNat).length := by rw [List.length_drop, List.length_drop]; omega
          refine To.viaK (by (try simp (disch := omega) only [X.den, X.dens, X.denss, D.int_i, D.boo_b, D.str_s, D.rows_l, List.getD_cons_zero, List.getD_cons_succ, List.cons_append, List.nil_append, List.append_nil, List.length_cons, List.length_nil, decide_eq_true_eq, decide_eq_false_iff_not, Bool.not_eq_true', Bool.not_eq_false', Bool.and_eq_true, Bool.and_eq_false_iff, Bool.true_eq_false, Bool.false_eq_true, Bool.not_true, Bool.not_false, eq_self, D.len_l, wr64, not_true_eq_false, not_false_eq_true, nums_take, nums_len, ml, ej]); exact run_v ok (s := s) (ls := ls.take j.toNat) (zs := zs.take j.toNat) (by omega) e1 (by rw [List.length_take]; omega) q1.take q2.take) ?_
          rintro _ ρ2 rfl eρ
          refine ⟨rfl, ?_⟩
          simp only [List.cons_append, List.nil_append] at eρ
          subst eρ
          have sp := runL_split (k := k) (s := s) (ls := ls) (zs := zs) (j := j.toNat)
          have l1 := runL_len (k := k) (s := s) e1
          have last : ∀ d, 0 < j → (runL k s (ls.take j.toNat) (zs.take j.toNat)).getD (j - 1).toNat d = endL k s (ls.take j.toNat) (zs.take j.toNat) := fun d h => by
            have := endL_last (k := k) (s := s) (d := d) e1 (by rw [List.length_take]; omega)
            rw [List.length_take, Nat.min_eq_left jn] at this
            rw [← this, show (j - 1).toNat = j.toNat - 1 by omega]
          have er := endL_rng (k := k) (s := s) (ls := ls.take j.toNat) (zs := zs.take j.toNat) (by omega)
          have zero : j = 0 → endL k s (ls.take j.toNat) (zs.take j.toNat) = s := fun h => by subst h; simp [endL]
          generalize endL k s (ls.take j.toNat) (zs.take j.toNat) = e at sp last er zero
          generalize runL k s (ls.take j.toNat) (zs.take j.toNat) = one at sp l1 last ⊢
          rw [List.length_take, Nat.min_eq_left jn] at l1
          have m1 : min (one.length : Int) 9223372036854775807 = j := by omega
          refine To.yes (by simp (disch := omega) only [X.den, X.dens, X.denss, D.int_i, D.boo_b, D.str_s, D.rows_l, List.getD_cons_zero, List.getD_cons_succ, List.cons_append, List.nil_append, List.append_nil, List.length_cons, List.length_nil, decide_eq_true_eq, decide_eq_false_iff_not, Bool.not_eq_true', Bool.not_eq_false', Bool.and_eq_true, Bool.and_eq_false_iff, Bool.true_eq_false, Bool.false_eq_true, Bool.not_true, Bool.not_false, eq_self, D.len_l, nums_len, m1, ml, wr64, ej]) ?_
          refine To.joinK (fun l => l = [.i e]) ?_ ?_
          · refine To.ite (fun c => ?_) (fun c => ?_) <;> simp (disch := omega) only [X.den, X.dens, X.denss, D.int_i, D.boo_b, D.str_s, D.rows_l, List.getD_cons_zero, List.getD_cons_succ, List.cons_append, List.nil_append, List.append_nil, List.length_cons, List.length_nil, decide_eq_true_eq, decide_eq_false_iff_not, Bool.not_eq_true', Bool.not_eq_false', Bool.and_eq_true, Bool.and_eq_false_iff, Bool.true_eq_false, Bool.false_eq_true, Bool.not_true, Bool.not_false, eq_self, D.len_l, nums_len, ml, wr64, ej] at c
            · refine To.need (by simp (disch := omega) only [X.den, X.dens, X.denss, D.int_i, D.boo_b, D.str_s, D.rows_l, List.getD_cons_zero, List.getD_cons_succ, List.cons_append, List.nil_append, List.append_nil, List.length_cons, List.length_nil, decide_eq_true_eq, decide_eq_false_iff_not, Bool.not_eq_true', Bool.not_eq_false', Bool.and_eq_true, Bool.and_eq_false_iff, Bool.true_eq_false, Bool.false_eq_true, Bool.not_true, Bool.not_false, eq_self, D.len_l, nums_len, m1, ml, wr64, ej]; omega) ?_
              refine To.ret ⟨rfl, ?_⟩
              simp (disch := omega) only [X.den, X.dens, X.denss, D.int_i, D.boo_b, D.str_s, D.rows_l, List.getD_cons_zero, List.getD_cons_succ, List.cons_append, List.nil_append, List.append_nil, List.length_cons, List.length_nil, D.len_l, nums_len, ml, wr64, ej]
              rw [nums_cell (by omega) (by omega), last 0 c]
            · refine To.ret ⟨rfl, ?_⟩
              simp only [X.den, X.dens, X.denss, D.int_i, D.boo_b, D.str_s, D.rows_l, List.getD_cons_zero, List.getD_cons_succ, List.cons_append, List.nil_append, List.append_nil, List.length_cons, List.length_nil]
              rw [zero (by omega)]
          rintro l ρ2 rfl eρ
          simp only [List.cons_append, List.nil_append] at eρ
          subst eρ
          refine To.need (by simp (disch := omega) only [X.den, X.dens, X.denss, D.int_i, D.boo_b, D.str_s, D.rows_l, List.getD_cons_zero, List.getD_cons_succ, List.cons_append, List.nil_append, List.append_nil, List.length_cons, List.length_nil, decide_eq_true_eq, decide_eq_false_iff_not, Bool.not_eq_true', Bool.not_eq_false', Bool.and_eq_true, Bool.and_eq_false_iff, Bool.true_eq_false, Bool.false_eq_true, Bool.not_true, Bool.not_false, eq_self, D.len_l, nums_len, ml, mz, wr64, ej]; omega) ?_
          refine To.need (by simp (disch := omega) only [X.den, X.dens, X.denss, D.int_i, D.boo_b, D.str_s, D.rows_l, List.getD_cons_zero, List.getD_cons_succ, List.cons_append, List.nil_append, List.append_nil, List.length_cons, List.length_nil, decide_eq_true_eq, decide_eq_false_iff_not, Bool.not_eq_true', Bool.not_eq_false', Bool.and_eq_true, Bool.and_eq_false_iff, Bool.true_eq_false, Bool.false_eq_true, Bool.not_true, Bool.not_false, eq_self, D.len_l, nums_len, ml, mz, wr64, ej]; omega) ?_
          refine To.viaK (by (try simp (disch := omega) only [X.den, X.dens, X.denss, D.int_i, D.boo_b, D.str_s, D.rows_l, List.getD_cons_zero, List.getD_cons_succ, List.cons_append, List.nil_append, List.append_nil, List.length_cons, List.length_nil, decide_eq_true_eq, decide_eq_false_iff_not, Bool.not_eq_true', Bool.not_eq_false', Bool.and_eq_true, Bool.and_eq_false_iff, Bool.true_eq_false, Bool.false_eq_true, Bool.not_true, Bool.not_false, eq_self, D.len_l, wr64, not_true_eq_false, not_false_eq_true, nums_drop, nums_len, ml, ej]); exact run_v ok (s := e) (ls := ls.drop j.toNat) (zs := zs.drop j.toNat) er e2 (by rw [List.length_drop]; omega) q1.drop q2.drop) ?_
          rintro _ ρ2 rfl eρ
          refine ⟨rfl, ?_⟩
          simp only [List.cons_append, List.nil_append] at eρ
          subst eρ
          have l2 := runL_len (k := k) (s := e) e2
          rw [List.length_drop] at l2
          generalize runL k e (ls.drop j.toNat) (zs.drop j.toNat) = rest at sp l2 ⊢
          refine To.subK (fun K hK => ?_)
          refine To.yes rfl ?_
          refine To.yes rfl ?_
          refine To.need (by simp only [X.den, X.dens, X.denss, D.int_i, D.boo_b, D.str_s, D.rows_l, List.getD_cons_zero, List.getD_cons_succ, List.cons_append, List.nil_append, List.append_nil, List.length_cons, List.length_nil, decide_eq_true_eq, decide_eq_false_iff_not, Bool.not_eq_true', Bool.not_eq_false', Bool.and_eq_true, Bool.and_eq_false_iff, Bool.true_eq_false, Bool.false_eq_true, Bool.not_true, Bool.not_false, eq_self, D.len_l, nums_len]; omega) ?_
          refine To.need (by simp only [X.den, X.dens, X.denss, D.int_i, D.boo_b, D.str_s, D.rows_l, List.getD_cons_zero, List.getD_cons_succ, List.cons_append, List.nil_append, List.append_nil, List.length_cons, List.length_nil, decide_eq_true_eq, decide_eq_false_iff_not, Bool.not_eq_true', Bool.not_eq_false', Bool.and_eq_true, Bool.and_eq_false_iff, Bool.true_eq_false, Bool.false_eq_true, Bool.not_true, Bool.not_false, eq_self, D.len_l, nums_len]; omega) ?_
          refine To.viaK (by (try simp (disch := omega) only [X.den, X.dens, X.denss, D.int_i, D.boo_b, D.str_s, D.rows_l, List.getD_cons_zero, List.getD_cons_succ, List.cons_append, List.nil_append, List.append_nil, List.length_cons, List.length_nil, decide_eq_true_eq, decide_eq_false_iff_not, Bool.not_eq_true', Bool.not_eq_false', Bool.and_eq_true, Bool.and_eq_false_iff, Bool.true_eq_false, Bool.false_eq_true, Bool.not_true, Bool.not_false, eq_self, D.len_l, wr64, not_true_eq_false, not_false_eq_true, nums_app, ← sp]); exact ints_same (xs := runL k s ls zs) (by omega)) ?_
          rintro _ ρ2 rfl eρ
          refine ⟨rfl, ?_⟩
          simp only [List.cons_append, List.nil_append] at eρ
          subst eρ
          refine To.yes rfl ?_
          refine To.callK (l := [.b true]) rfl rfl _ (by simp only [List.cons_append, List.nil_append]; first | done | rfl) ?_
          refine To.ret ⟨rfl, hK _ _ (by simp only [X.den, X.dens, X.denss, D.int_i, D.boo_b, D.str_s, D.rows_l, List.getD_cons_zero, List.getD_cons_succ, List.cons_append, List.nil_append, List.append_nil, List.length_cons, List.length_nil]; rfl) ?_⟩
          exact To.ret (by simp only [X.den, X.dens, X.denss, D.int_i, D.boo_b, D.str_s, D.rows_l, List.getD_cons_zero, List.getD_cons_succ, List.cons_append, List.nil_append, List.append_nil, List.length_cons, List.length_nil])
      · cases h
    · cases h
theorem OperationRuns_walk {w : World} (hgl : Gl w [] []) (v : Value) (zs : List Int) (h : IntsIn w w.heap.size v .i64 zs) (hz : ∀ z ∈ zs, (Lit.int .i64 z).wf = true) (a : Int) (ha : (Lit.int .u8 a).wf = true) : Calls Tryd.prog 7 #[v, .int .u8 a] w fun e w' => e = .returned (.bool true) ∧ Below w.heap.size w w' :=
  con_law OperationRuns_ok rfl (fun G hG => args_ints h hG (args_int (by trivial))) (by simp [opRuns_K]) (ds := [numD zs, .i a]) (by
    have := bounds_u8 ha
    exact if_pos (by omega))
end Go.Proofs.YtkapaokcgbgjfaaDoor
