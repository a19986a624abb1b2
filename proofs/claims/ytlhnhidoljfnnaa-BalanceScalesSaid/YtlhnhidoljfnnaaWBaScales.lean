/- BalanceScales. -/
import Derived.Test.YtlhnhidoljfnnaaBaL
set_option linter.unusedVariables false
set_option linter.unusedSimpArgs false
namespace Go.Proofs.Ytlhnhidoljfnnaa
open Go.RowKit Fx Sh
def baSca_H : List Hint := [
  ⟨939654908, 7, [.t [.int .i64] 7], ⟨[.und, .und, .bool (.B false), .ptr 0 0, .var 2, .int .i64 (.V 8), .int .i64 (.wr .i64 (.add (.N 1) (.V 4))), .var 6, .und, .und, .und, .und, .und, .und, .und, .und, .und, .und, .und, .und, .und, .und, .und, .und, .und, .und, .und, .var 2, .int .i64 (.len (.V 1)), .int .i64 (.V 9), .und, .und, .und, .und, .und, .und, .und, .und, .und, .und, .und, .und, .und, .und, .und, .und, .und, .und, .und, .und, .und, .und, .und, .und, .und, .und, .und, .und, .und, .und, .und, .und, .und, .und, .und, .und, .und, .und, .und, .und, .und, .und, .und, .und, .und, .und, .und, .und, .und, .und, .und, .und, .und, .und, .und, .und, .und, .und, .und, .und], [.fix [.var 4, .int .i64 (.V 6)] true, .rows [.int .i64] (.V 7) 6], 10, 7, [none, none, none, none, none, none, none, none, none, none], [], [⟨0, [.int .i64], (.V 0)⟩, ⟨1, [.int .i64], (.take (.V 0) (.mn (.len (.V 0)) (.N 600)))⟩, ⟨2, [.int .i64], (.V 1)⟩, ⟨3, [.int .i64], (.V 2)⟩, ⟨4, [.int .i64], (.V 5)⟩]⟩⟩]
def baSca_K : Con := ⟨12, [.val false [.sl [.int .i64]]], [.val false [.bool]], []⟩
def baSca_T : T (List X) :=
  (.need (.not (.lt (.len (.V 0)) (.mn (.len (.V 0)) (.N 600))))
  (.call 63 [(.take (.V 0) (.mn (.len (.V 0)) (.N 600))), (.N 0)] 3
   (.ite (.eq (.len (.V 1)) (.N 0))
    (.call 64 [] 1
     (.ret [(.V 4)]))
    (.call 26 [(.V 2), (.V 3), (.N 5)] 3
     (.loop [(.rows []), (.N 0), (.N 0)]
      (.ite (.lt (.V 9) (.len (.V 1)))
       (.need (.and (.not (.lt (.V 9) (.N 0))) (.lt (.V 9) (.len (.V 1))))
        (.need (.not (.lt (.N 17592186044416) (.add (.len (.V 7)) (.N 1))))
         (.ret (true, [(.app (.V 7) (.rows [[(.wr .i64 (.mul (.wr .i64 (.add (.N 1) (.V 4))) (.at (.V 1) (.V 9) 0)))]])), (.wr .i64 (.add (.V 8) (.at (.V 1) (.V 9) 0))), (.wr .i64 (.add (.V 9) (.N 1)))]))))
       (.ret (false, [(.V 7), (.V 8)]))) 2
      (.call 26 [(.V 5), (.V 6), (.wr .i64 (.mul (.N 3) (.V 8)))] 3
       (.call 65 [(.V 9), (.V 1)] 2
        (.call 65 [(.V 9), (.V 7)] 2
         (.call 65 [(.wr .i64 (.mul (.wr .i64 (.add (.N 1) (.V 4))) (.V 8))), (.V 1)] 2
          (.sub (.ite (.eq (.V 13) (.N 0))
            (.ite (.eq (.V 15) (.N 0))
             (.ite (.eq (.V 17) (.N 0))
              (.call 25 [(.V 12), (.V 14)] 1
               (.ite (.V 18)
                (.call 25 [(.V 16), (.V 7)] 1
                 (.ite (.V 19)
                  (.call 64 [] 1
                   (.ret [(.V 20)]))
                  (.ret [(.B false)])))
                (.ret [(.B false)])))
              (.ret [(.B false)]))
             (.ret [(.B false)]))
            (.ret [(.B false)])) 1
           (.ret [(.V 18)])))))))))))
set_option maxRecDepth 100000 in
theorem baSca_t : runS Try.prog [srcN_K.to [], baRat_K.to [], baSplit_K.to [], baInts_K.to [], sane17_K.to []] [(12, baSca_H)] baSca_K = baSca_T := by kernel_rfl
noncomputable def bscM : Models := Models.on srcN_K.f (srcN_T.run noM 0) (Models.on baRat_K.f (baRat_T.run srM 30) (Models.on baSplit_K.f (baSplit_T.run bsM 30) (Models.on baInts_K.f (baInts_T.run noM 30) (Models.on sane17_K.f (fun _ => some [.b true]) noM))))
theorem BalanceScales_ok : ConOk Try.prog baSca_K fun ds => match ds with | [.l _] => some [.b true] | _ => none :=
  con_of follows (M := bscM) (one_con (srcN_ok.to _) (one_con (baRat_ok.to _) (one_con (baSplit_ok.to _) (one_con (baInts_ok.to _) (one_con (sane17_ok.to _) no_cons))))) baSca_t fun ds outs hl h => by
    split at h
    · rename_i rows
      injection h with h
      subst h
      refine ⟨fun i l h k => by simp [baSca_K] at k, 30, ?_⟩
      unfold baSca_T
      refine To.need (by simp only [X.den, X.dens, X.denss, D.int_i, D.boo_b, D.str_s, D.rows_l, List.getD_cons_zero, List.getD_cons_succ, List.cons_append, List.nil_append, List.append_nil, List.length_cons, List.length_nil, decide_eq_true_eq, decide_eq_false_iff_not, Bool.not_eq_true', Bool.not_eq_false', Bool.and_eq_true, Bool.and_eq_false_iff, Bool.true_eq_false, Bool.false_eq_true, Bool.not_true, Bool.not_false, eq_self, D.len_l]; omega) ?_
      refine To.viaK (by (try simp (disch := omega) only [X.den, X.dens, X.denss, D.int_i, D.boo_b, D.str_s, D.rows_l, List.getD_cons_zero, List.getD_cons_succ, List.cons_append, List.nil_append, List.append_nil, List.length_cons, List.length_nil, decide_eq_true_eq, decide_eq_false_iff_not, Bool.not_eq_true', Bool.not_eq_false', Bool.and_eq_true, Bool.and_eq_false_iff, Bool.true_eq_false, Bool.false_eq_true, Bool.not_true, Bool.not_false, eq_self, D.len_l, wr64, not_true_eq_false, not_false_eq_true]); exact rat_to src_take17) ?_
      rintro _ ρ2 ⟨l, t1, rfl, hn, hf, h1⟩ eρ
      refine ⟨rfl, ?_⟩
      simp only [List.cons_append, List.nil_append] at eρ
      subst eρ
      generalize List.take (min (min (rows.length : Int) 9223372036854775807) 600).toNat rows = src at *
      refine To.ite (fun c => ?_) (fun c => ?_) <;> simp only [X.den, X.dens, X.denss, D.int_i, D.boo_b, D.str_s, D.rows_l, List.getD_cons_zero, List.getD_cons_succ, List.cons_append, List.nil_append, List.append_nil, List.length_cons, List.length_nil, decide_eq_true_eq, decide_eq_false_iff_not, Bool.not_eq_true', Bool.not_eq_false', Bool.and_eq_true, Bool.and_eq_false_iff, Bool.true_eq_false, Bool.false_eq_true, Bool.not_true, Bool.not_false, eq_self, D.len_l] at c
      · refine To.callK (l := [.b true]) rfl rfl _ (by simp only [List.cons_append, List.nil_append]; first | done | rfl) ?_
        exact To.ret (by simp only [X.den, X.dens, X.denss, D.int_i, D.boo_b, D.str_s, D.rows_l, List.getD_cons_zero, List.getD_cons_succ, List.cons_append, List.nil_append, List.append_nil, List.length_cons, List.length_nil])
      have h0 : 1 ≤ l.length := by omega
      have hv : ∀ i : Int, 0 ≤ i → i < l.length → okR l i := fun i a b => by have := rt_ok hf a b; unfold okR; omega
      have sr := fun (k : Nat) (hk : k ≤ l.length) => sumf_bound (f := nf l) (a := 1) (b := 100) (n := k) fun i a b => rt_ok hf a (by omega)
      have sn := sr l.length (Nat.le_refl _)
      refine To.viaK (by (try simp (disch := omega) only [X.den, X.dens, X.denss, D.int_i, D.boo_b, D.str_s, D.rows_l, List.getD_cons_zero, List.getD_cons_succ, List.cons_append, List.nil_append, List.append_nil, List.length_cons, List.length_nil, decide_eq_true_eq, decide_eq_false_iff_not, Bool.not_eq_true', Bool.not_eq_false', Bool.and_eq_true, Bool.and_eq_false_iff, Bool.true_eq_false, Bool.false_eq_true, Bool.not_true, Bool.not_false, eq_self, D.len_l, wr64, not_true_eq_false, not_false_eq_true]); exact srcN_to h1 (by omega) (by omega)) ?_
      rintro _ ρ2 ⟨k0, t2, rfl, p2, q2, h2⟩ eρ
      refine ⟨rfl, ?_⟩
      simp only [List.cons_append, List.nil_append] at eρ
      subst eρ
      obtain ⟨kk, ek⟩ : ∃ kk, 1 + k0 = kk := ⟨_, rfl⟩
      have mb : ∀ i : Int, 0 ≤ i → i < l.length → 1 ≤ kk * nf l i ∧ kk * nf l i ≤ 500 := fun i a b => by
        have r := rt_ok hf a b
        have m1 := Int.mul_le_mul (show 1 ≤ kk by omega) r.1 (by decide) (by omega)
        have m2 := Int.mul_le_mul (show kk ≤ 5 by omega) r.2 (by omega) (by decide)
        omega
      refine To.loopK (fun m o => ∃ (y : List (List D)) (k : Nat), o = [.l y, .i (sumf (nf l) k), .i k] ∧ k + m = l.length ∧ y.length = k ∧ ∀ i : Int, 0 ≤ i → i < k → nf y i = kk * nf l i) (fun o => ∃ y : List (List D), o = [.l y, .i (sumf (nf l) l.length)] ∧ y.length = l.length ∧ ∀ i : Int, 0 ≤ i → i < l.length → nf y i = kk * nf l i) l.length (by omega) ?_ ?_ ?_
      · exact ⟨[], 0, rfl, by omega, rfl, by intro i; omega⟩
      · rintro m o ρ2 ⟨y, k, rfl, hk, hy, hi⟩ eρ
        simp only [List.cons_append, List.nil_append] at eρ
        subst eρ
        refine To.ite (fun c => ?_) (fun c => ?_) <;> simp only [X.den, X.dens, X.denss, D.int_i, D.boo_b, D.str_s, D.rows_l, List.getD_cons_zero, List.getD_cons_succ, List.cons_append, List.nil_append, List.append_nil, List.length_cons, List.length_nil, decide_eq_true_eq, decide_eq_false_iff_not, Bool.not_eq_true', Bool.not_eq_false', Bool.and_eq_true, Bool.and_eq_false_iff, Bool.true_eq_false, Bool.false_eq_true, Bool.not_true, Bool.not_false, eq_self, D.len_l] at c
        · refine To.need (by simp only [X.den, X.dens, X.denss, D.int_i, D.boo_b, D.str_s, D.rows_l, List.getD_cons_zero, List.getD_cons_succ, List.cons_append, List.nil_append, List.append_nil, List.length_cons, List.length_nil, decide_eq_true_eq, decide_eq_false_iff_not, Bool.not_eq_true', Bool.not_eq_false', Bool.and_eq_true, Bool.and_eq_false_iff, Bool.true_eq_false, Bool.false_eq_true, Bool.not_true, Bool.not_false, eq_self, D.len_l]; omega) ?_
          refine To.need (by simp only [X.den, X.dens, X.denss, D.int_i, D.boo_b, D.str_s, D.rows_l, List.getD_cons_zero, List.getD_cons_succ, List.cons_append, List.nil_append, List.append_nil, List.length_cons, List.length_nil, decide_eq_true_eq, decide_eq_false_iff_not, Bool.not_eq_true', Bool.not_eq_false', Bool.and_eq_true, Bool.and_eq_false_iff, Bool.true_eq_false, Bool.false_eq_true, Bool.not_true, Bool.not_false, eq_self, D.len_l]; omega) ?_
          have s1 := sr k (by omega)
          have s2 := sr (k + 1) (by omega)
          simp only [sumf] at s2
          have m1 := mb k (by omega) (by omega)
          refine To.ret (.inl ⟨rfl, m - 1, by omega, y ++ [[.i (kk * nf l k)]], k + 1, ?_, by omega, by rw [List.length_append]; simp; omega, fun i i0 i1 => ?_⟩)
          · simp (disch := omega) only [X.den, X.dens, X.denss, D.int_i, D.boo_b, D.str_s, D.rows_l, List.getD_cons_zero, List.getD_cons_succ, List.cons_append, List.nil_append, List.append_nil, List.length_cons, List.length_nil, X.denss, wr64, nf_def, nat_suc, sumf, ek]
          · by_cases q : i = k
            · subst q
              unfold nf
              rw [cell_of, List.getD_eq_getElem?_getD (l := y ++ _), List.getElem?_append_right (by omega)]
              simp [hy, D.int]
            · rw [← hi i i0 (by omega)]
              unfold nf
              rw [cell_of, List.getD_eq_getElem?_getD (l := y ++ _), List.getElem?_append_left (by omega), ← List.getD_eq_getElem?_getD]
              rfl
        · obtain rfl : k = l.length := by omega
          exact To.ret (.inr ⟨rfl, y, by simp only [X.den, X.dens, X.denss, D.int_i, D.boo_b, D.str_s, D.rows_l, List.getD_cons_zero, List.getD_cons_succ, List.cons_append, List.nil_append, List.append_nil, List.length_cons, List.length_nil], hy, hi⟩)
      rintro o ρ2 ⟨y, rfl, hy, yi⟩ eρ
      simp only [List.cons_append, List.nil_append] at eρ
      subst eρ
      refine ⟨rfl, ?_⟩
      have w3 : IntKind.i64.wrap (3 * sumf (nf l) l.length) = 3 * sumf (nf l) l.length := wr64 (by omega) (by omega)
      refine To.viaK (by (try simp (disch := omega) only [X.den, X.dens, X.denss, D.int_i, D.boo_b, D.str_s, D.rows_l, List.getD_cons_zero, List.getD_cons_succ, List.cons_append, List.nil_append, List.append_nil, List.length_cons, List.length_nil, decide_eq_true_eq, decide_eq_false_iff_not, Bool.not_eq_true', Bool.not_eq_false', Bool.and_eq_true, Bool.and_eq_false_iff, Bool.true_eq_false, Bool.false_eq_true, Bool.not_true, Bool.not_false, eq_self, D.len_l, wr64, not_true_eq_false, not_false_eq_true, w3]); exact srcN_to h2 (by omega) (by omega)) ?_
      rintro _ ρ2 ⟨t, t3, rfl, p3, q3, h3⟩ eρ
      refine ⟨rfl, ?_⟩
      simp only [List.cons_append, List.nil_append] at eρ
      subst eρ
      have yv : ∀ i : Int, 0 ≤ i → i < y.length → okR y i := fun i a b => by
        have := mb i a (by omega)
        unfold okR
        rw [yi i a (by omega)]
        omega
      obtain ⟨S, hS⟩ : ∃ S, sumf (nf l) l.length = S := ⟨_, rfl⟩
      have kb := Int.mul_le_mul_of_nonneg_left (show kk ≤ 5 by omega) (show 0 ≤ S by omega)
      have kb0 := Int.mul_nonneg (show 0 ≤ S by omega) (show 0 ≤ kk by omega)
      have kc : S * kk = kk * S := Int.mul_comm _ _
      have b1 : bck t l = 0 := bck_of h0 (by omega) p3 (by omega) hv
      have b2 : bck t y = 0 := bck_of (by omega) (by omega) p3 (by omega) yv
      have b3 : bck (kk * S) l = 0 := bck_of h0 (by omega) (by omega) (by omega) hv
      refine To.viaK (by (try simp (disch := omega) only [X.den, X.dens, X.denss, D.int_i, D.boo_b, D.str_s, D.rows_l, List.getD_cons_zero, List.getD_cons_succ, List.cons_append, List.nil_append, List.append_nil, List.length_cons, List.length_nil, decide_eq_true_eq, decide_eq_false_iff_not, Bool.not_eq_true', Bool.not_eq_false', Bool.and_eq_true, Bool.and_eq_false_iff, Bool.true_eq_false, Bool.false_eq_true, Bool.not_true, Bool.not_false, eq_self, D.len_l, wr64, not_true_eq_false, not_false_eq_true]); exact split_gen b1 h0) ?_
      rintro _ ρ2 ⟨a, rfl, a1, al, sa⟩ eρ
      refine ⟨rfl, ?_⟩
      simp only [List.cons_append, List.nil_append] at eρ
      subst eρ
      refine To.viaK (by (try simp (disch := omega) only [X.den, X.dens, X.denss, D.int_i, D.boo_b, D.str_s, D.rows_l, List.getD_cons_zero, List.getD_cons_succ, List.cons_append, List.nil_append, List.append_nil, List.length_cons, List.length_nil, decide_eq_true_eq, decide_eq_false_iff_not, Bool.not_eq_true', Bool.not_eq_false', Bool.and_eq_true, Bool.and_eq_false_iff, Bool.true_eq_false, Bool.false_eq_true, Bool.not_true, Bool.not_false, eq_self, D.len_l, wr64, not_true_eq_false, not_false_eq_true]); exact split_gen b2 (by omega)) ?_
      rintro _ ρ2 ⟨b, rfl, b1', bl, sb⟩ eρ
      refine ⟨rfl, ?_⟩
      simp only [List.cons_append, List.nil_append] at eρ
      subst eρ
      refine To.viaK (by (try simp (disch := omega) only [X.den, X.dens, X.denss, D.int_i, D.boo_b, D.str_s, D.rows_l, List.getD_cons_zero, List.getD_cons_succ, List.cons_append, List.nil_append, List.append_nil, List.length_cons, List.length_nil, decide_eq_true_eq, decide_eq_false_iff_not, Bool.not_eq_true', Bool.not_eq_false', Bool.and_eq_true, Bool.and_eq_false_iff, Bool.true_eq_false, Bool.false_eq_true, Bool.not_true, Bool.not_false, eq_self, D.len_l, wr64, not_true_eq_false, not_false_eq_true, ek, hS]); exact split_gen b3 h0) ?_
      rintro _ ρ2 ⟨d, rfl, d1, dl, sd⟩ eρ
      refine ⟨rfl, ?_⟩
      simp only [List.cons_append, List.nil_append] at eρ
      subst eρ
      rw [hy] at sb
      have sb' := split_scale (k := kk) (by omega) yi sb
      have ab := split_unique sa sb'
      have dy : ∀ i : Int, 0 ≤ i → i < l.length → nf d i = kk * nf l i := fun i i0 i1 => by
        have q : ∀ j : Int, 0 ≤ j → j < l.length → kk * S * nf l j / sumf (nf l) l.length = kk * nf l j := fun j _ _ => by
          rw [hS, show kk * S * nf l j = (kk * nf l j) * S by grind]
          exact Int.mul_ediv_cancel _ (by omega)
        have le : ∀ j : Int, 0 ≤ j → j < l.length → (fun j => kk * nf l j) j ≤ nf d j := fun j j0 j1 => by
          have := sd.1 j j0 j1
          rw [q j j0 j1] at this
          rcases this with e | e <;> simp only [e] <;> omega
        have su : sumf (fun j => kk * nf l j) l.length = kk * S := by rw [sumf_mulc (f := nf l) (k := kk) fun _ _ _ => rfl, hS]
        exact (sumf_eq le (by rw [sd.2.1, su]; exact Int.le_refl _) i i0 i1).symm
      have a20 : a.length ≤ 20 := by omega
      have d20 : d.length ≤ 20 := by omega
      refine To.joinK (fun o => o = [.b true]) ?_ ?_
      · refine To.yes rfl (To.yes rfl (To.yes rfl ?_))
        refine To.viaK (by (try simp (disch := omega) only [X.den, X.dens, X.denss, D.int_i, D.boo_b, D.str_s, D.rows_l, List.getD_cons_zero, List.getD_cons_succ, List.cons_append, List.nil_append, List.append_nil, List.length_cons, List.length_nil, decide_eq_true_eq, decide_eq_false_iff_not, Bool.not_eq_true', Bool.not_eq_false', Bool.and_eq_true, Bool.and_eq_false_iff, Bool.true_eq_false, Bool.false_eq_true, Bool.not_true, Bool.not_false, eq_self, D.len_l, wr64, not_true_eq_false, not_false_eq_true]); exact ints_gen (x := a) (y := b) a20) ?_
        rintro _ ρ2 rfl eρ
        refine ⟨rfl, ?_⟩
        simp only [List.cons_append, List.nil_append] at eρ
        subst eρ
        refine To.yes (by simp only [X.den, X.dens, X.denss, D.int_i, D.boo_b, D.str_s, D.rows_l, List.getD_cons_zero, List.getD_cons_succ, List.cons_append, List.nil_append, List.append_nil, List.length_cons, List.length_nil]; exact sameN_true.2 ⟨by omega, fun i i0 i1 => ab i i0 (by omega)⟩) ?_
        refine To.viaK (by (try simp (disch := omega) only [X.den, X.dens, X.denss, D.int_i, D.boo_b, D.str_s, D.rows_l, List.getD_cons_zero, List.getD_cons_succ, List.cons_append, List.nil_append, List.append_nil, List.length_cons, List.length_nil, decide_eq_true_eq, decide_eq_false_iff_not, Bool.not_eq_true', Bool.not_eq_false', Bool.and_eq_true, Bool.and_eq_false_iff, Bool.true_eq_false, Bool.false_eq_true, Bool.not_true, Bool.not_false, eq_self, D.len_l, wr64, not_true_eq_false, not_false_eq_true]); exact ints_gen (x := d) (y := y) d20) ?_
        rintro _ ρ2 rfl eρ
        refine ⟨rfl, ?_⟩
        simp only [List.cons_append, List.nil_append] at eρ
        subst eρ
        refine To.yes (by simp only [X.den, X.dens, X.denss, D.int_i, D.boo_b, D.str_s, D.rows_l, List.getD_cons_zero, List.getD_cons_succ, List.cons_append, List.nil_append, List.append_nil, List.length_cons, List.length_nil]; exact sameN_true.2 ⟨by omega, fun i i0 i1 => by rw [dy i i0 (by omega), yi i i0 (by omega)]⟩) ?_
        refine To.callK (l := [.b true]) rfl rfl _ (by simp only [List.cons_append, List.nil_append]; first | done | rfl) ?_
        exact To.ret ⟨rfl, by simp only [X.den, X.dens, X.denss, D.int_i, D.boo_b, D.str_s, D.rows_l, List.getD_cons_zero, List.getD_cons_succ, List.cons_append, List.nil_append, List.append_nil, List.length_cons, List.length_nil]⟩
      rintro o ρ2 rfl eρ
      simp only [List.cons_append, List.nil_append] at eρ
      subst eρ
      exact To.ret (by simp only [X.den, X.dens, X.denss, D.int_i, D.boo_b, D.str_s, D.rows_l, List.getD_cons_zero, List.getD_cons_succ, List.cons_append, List.nil_append, List.append_nil, List.length_cons, List.length_nil])
    · cases h
theorem BalanceScales_walk {w : World} (v : Value) (zs : List Int) (h : IntsIn w w.heap.size v .i64 zs) (hz : ∀ z ∈ zs, (Lit.int .i64 z).wf = true) : Calls Try.prog 12 #[v] w fun e w' => e = .returned (.bool true) ∧ Below w.heap.size w w' :=
  con_law BalanceScales_ok rfl (fun G hG => args_ints h hG (by trivial)) (by simp [baSca_K]) (ds := [numD zs]) rfl
end Go.Proofs.Ytlhnhidoljfnnaa
