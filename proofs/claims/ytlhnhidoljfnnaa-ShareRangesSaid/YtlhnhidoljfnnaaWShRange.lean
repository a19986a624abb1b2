/- ShareRanges. -/
import Derived.Test.YtlhnhidoljfnnaaShrS
import Derived.Test.YtlhnhidoljfnnaaShrR
set_option linter.unusedVariables false
set_option linter.unusedSimpArgs false
namespace Go.Proofs.Ytlhnhidoljfnnaa
open Go.RowKit Fx Sh
def shRan_H : List Hint := [
  ⟨1152917381471792923, 10, [], ⟨[.und, .und, .bool (.B false), .ptr 0 0, .var 2, .und, .und, .und, .int .i64 (.wr .i64 (.add (.V 4) (.V 7))), .var 5, .und, .und, .und, .und, .und, .und, .und, .und, .und, .und, .und, .und, .und, .und, .und, .und, .und, .und, .und, .und, .und, .und, .und, .und, .und, .und, .und, .und, .und, .und, .und, .und, .int .i64 (.len (.V 1)), .int .i64 (.V 13), .und, .und, .und, .und, .und, .und, .und, .und, .und, .und, .und, .und, .und, .und, .und, .und, .und, .und, .und, .und, .und, .und, .und, .und, .und, .und, .und, .und, .und, .und, .und, .und, .und, .und, .und, .und, .und, .und, .und, .und, .und, .und, .und, .und, .und, .und, .und, .und, .und, .und, .und, .und, .und, .und, .und, .und, .und, .und, .und, .und, .und, .und, .und, .und, .und, .und, .und, .und, .und, .und, .und, .und, .und, .und, .und, .und, .und, .und, .und, .und, .und, .und, .und, .und, .und, .und, .und, .und, .und, .und, .und, .und, .und, .und, .und, .und, .und, .und, .und, .und, .und, .und, .und, .und, .und, .und, .und, .und, .und, .und, .und, .und, .und, .und], [.fix [.var 6, .int .i64 (.V 12)] true, .rows [.int .i64, .int .i64, .int .i64] (.V 10) 5], 14, 7, [none, none, none, none, none, none, none, none, none, none, none, none, none, none], [], [⟨0, [.int .i64], (.V 0)⟩, ⟨1, [.int .i64], (.take (.V 0) (.mn (.len (.V 0)) (.N 600)))⟩, ⟨2, [.int .i64, .int .i64, .int .i64], (.V 1)⟩, ⟨3, [.int .i64], (.V 2)⟩, ⟨4, [.int .i64], (.V 8)⟩, ⟨6, [.int .i64], (.V 11)⟩]⟩⟩]
def shRan_K : Con := ⟨8, [.val false [.sl [.int .i64]]], [.val false [.bool]], []⟩
def shRan_T : T (List X) :=
  (.need (.not (.lt (.len (.V 0)) (.mn (.len (.V 0)) (.N 600))))
  (.call 16 [(.take (.V 0) (.mn (.len (.V 0)) (.N 600))), (.N 0), (.N 4)] 3
   (.call 19 [(.V 1)] 3
    (.call 26 [(.V 2), (.V 3), (.wr .i64 (.add (.wr .i64 (.sub (.V 5) (.V 4))) (.N 1)))] 3
     (.need (.not (.lt (.N 5864062014805) (.len (.V 1))))
      (.loop [(.V 1), (.V 8), (.V 9), (.N 0)]
       (.ite (.lt (.V 13) (.len (.V 1)))
        (.need (.and (.not (.lt (.V 13) (.N 0))) (.lt (.V 13) (.len (.V 10))))
         (.call 26 [(.V 11), (.V 12), (.N 4)] 3
          (.call 26 [(.V 15), (.V 16), (.N 4)] 3
           (.ret (true, [(.put (.put (.V 10) (.V 13) 0 (.wr .i64 (.sub (.at (.V 10) (.V 13) 0) (.V 14)))) (.V 13) 1 (.wr .i64 (.add (.at (.V 10) (.V 13) 1) (.V 17)))), (.V 18), (.V 19), (.wr .i64 (.add (.V 13) (.N 1)))])))))
        (.ret (false, [(.V 10), (.V 11), (.V 12)]))) 3
       (.call 23 [(.V 1), (.wr .i64 (.add (.V 4) (.V 7)))] 3
        (.call 23 [(.V 10), (.wr .i64 (.add (.V 4) (.V 7)))] 3
         (.call 27 [(.V 1), (.V 13)] 2
          (.call 27 [(.V 10), (.V 16)] 2
           (.call 23 [(.rows [[(.N (-3)), (.N 9), (.N 2)]]), (.wr .i64 (.add (.V 4) (.V 7)))] 3
            (.sub (.ite (.eq (.V 15) (.N 0))
              (.ite (.eq (.V 18) (.N 0))
               (.ite (.eq (.V 20) (.N 0))
                (.ite (.eq (.V 22) (.N 0))
                 (.ite (.eq (.V 25) (.N 0))
                  (.ite (.eq (.V 17) (.N 0))
                   (.ite (.lt (.V 19) (.V 21))
                    (.ret [(.B false)])
                    (.ite (.eq (.len (.V 23)) (.N 1))
                     (.need (.lt (.N 0) (.len (.V 23)))
                      (.sub (.ite (.lt (.wr .i64 (.add (.V 4) (.V 7))) (.N (-3)))
                        (.ret [(.N (-3))])
                        (.ite (.lt (.N 9) (.wr .i64 (.add (.V 4) (.V 7))))
                         (.ret [(.N 9)])
                         (.ret [(.wr .i64 (.add (.V 4) (.V 7)))]))) 1
                       (.ite (.eq (.at (.V 23) (.N 0) 0) (.V 26))
                        (.ite (.eq (.V 24) (.wr .i64 (.sub (.wr .i64 (.add (.V 4) (.V 7))) (.at (.V 23) (.N 0) 0))))
                         (.call 14 [] 1
                          (.ret [(.V 27)]))
                         (.ret [(.B false)]))
                        (.ret [(.B false)]))))
                     (.ret [(.B false)])))
                   (.ret [(.B false)]))
                  (.ret [(.B false)]))
                 (.ret [(.B false)]))
                (.ret [(.B false)]))
               (.ret [(.B false)]))
              (.ret [(.B false)])) 1
             (.ret [(.V 26)])))))))))))))
set_option maxRecDepth 100000 in
theorem shRan_t : runS Try.prog [srcN_K.to [], srcShares_K.to [], rRea13_K.to [], shDivide_K.to [], shSum_K.to [], sane13_K.to []] [(8, shRan_H)] shRan_K = shRan_T := by kernel_rfl
def Three (y : List (List D)) : Prop := ∀ r ∈ y, ∃ a b c : Int, r = [.i a, .i b, .i c]
def put3 (y : List (List D)) (k : Int) (c : Nat) (v : Int) : List (List D) := y.set k.toNat ((y.getD k.toNat []).set c (.i v))
theorem put3_def {y : List (List D)} {k v : Int} {c : Nat} : (D.l y).put k c (.i v) = .l (put3 y k c v) := rfl
theorem put3_len {y : List (List D)} {k v : Int} {c : Nat} : (put3 y k c v).length = y.length := by simp only [put3, List.length_set]
theorem row_mem {y : List (List D)} {k : Int} (k0 : 0 ≤ k) (k1 : k < y.length) : y.getD k.toNat [] ∈ y := by
  rw [List.getD_eq_getElem?_getD, List.getElem?_eq_getElem (by omega), Option.getD_some]
  exact List.getElem_mem _
theorem put3_three {y : List (List D)} {k v : Int} {c : Nat} (h : Three y) (k0 : 0 ≤ k) (k1 : k < y.length) (hc : c < 2) : Three (put3 y k c v) := by
  intro r hr
  rcases List.mem_or_eq_of_mem_set hr with h1 | h1
  · exact h r h1
  · obtain ⟨a, b, d, e⟩ := h _ (row_mem k0 k1)
    rw [e] at h1
    match c, hc with
    | 0, _ => exact ⟨v, b, d, h1⟩
    | 1, _ => exact ⟨a, v, d, h1⟩
theorem put3_ce {y : List (List D)} {k v i : Int} {c : Nat} (h : Three y) (k0 : 0 ≤ k) (k1 : k < y.length) (i0 : 0 ≤ i) (hc : c < 2) (c' : Nat) (hc' : c' < 3) : ce (put3 y k c v) c' i = if i = k ∧ c' = c then v else ce y c' i := by
  have hk : k.toNat < y.length := by omega
  obtain ⟨a, b, d, e⟩ := h _ (row_mem k0 k1)
  simp only [ce, cell_of, put3]
  by_cases q : i = k
  · subst q
    rw [List.getD_eq_getElem?_getD (l := y.set _ _), List.getElem?_set_self hk, Option.getD_some, e]
    match c, hc, c', hc' with
    | 0, _, 0, _ => simp [D.int]
    | 0, _, 1, _ => simp [D.int]
    | 0, _, 2, _ => simp [D.int]
    | 1, _, 0, _ => simp [D.int]
    | 1, _, 1, _ => simp [D.int]
    | 1, _, 2, _ => simp [D.int]
  · rw [if_neg (fun x => q x.1), List.getD_eq_getElem?_getD (l := y.set _ _), List.getElem?_set_ne (by omega), ← List.getD_eq_getElem?_getD]
def lrM : Models := Models.on rRea13_K.f (rRea13_T.run rreM 30) l13M
theorem ShareRanges_ok : ConOk Try.prog shRan_K fun ds => match ds with | [.l _] => some [.b true] | _ => none :=
  con_of follows (M := lrM) (one_con (srcN_ok.to _) (one_con (srcShares_ok.to _) (one_con (rRea13_ok.to _) (one_con (shDivide_ok.to _) (one_con (shSum_ok.to _) (one_con (sane13_ok.to _) no_cons)))))) shRan_t fun ds outs hl h => by
    split at h
    · rename_i rows
      injection h with h
      subst h
      refine ⟨fun i l h k => by simp [shRan_K] at k, 30, ?_⟩
      unfold shRan_T
      refine To.need (by simp only [X.den, X.dens, X.denss, D.int_i, D.boo_b, D.str_s, D.rows_l, List.getD_cons_zero, List.getD_cons_succ, List.cons_append, List.nil_append, List.append_nil, List.length_cons, List.length_nil, decide_eq_true_eq, decide_eq_false_iff_not, Bool.not_eq_true', Bool.not_eq_false', Bool.and_eq_true, Bool.and_eq_false_iff, Bool.true_eq_false, Bool.false_eq_true, Bool.not_true, Bool.not_false, eq_self, D.len_l]; omega) ?_
      refine To.viaK (by (try simp (disch := omega) only [X.den, X.dens, X.denss, D.int_i, D.boo_b, D.str_s, D.rows_l, List.getD_cons_zero, List.getD_cons_succ, List.cons_append, List.nil_append, List.append_nil, List.length_cons, List.length_nil, decide_eq_true_eq, decide_eq_false_iff_not, Bool.not_eq_true', Bool.not_eq_false', Bool.and_eq_true, Bool.and_eq_false_iff, Bool.true_eq_false, Bool.false_eq_true, Bool.not_true, Bool.not_false, eq_self, D.len_l, wr64, not_true_eq_false, not_false_eq_true]); exact srcShares_to src_take13 (by omega) (by omega)) ?_
      rintro _ ρ2 ⟨l, t1, rfl, hn, hf, h1⟩ eρ
      refine ⟨rfl, ?_⟩
      simp only [List.cons_append, List.nil_append] at eρ
      subst eρ
      generalize List.take (min (min (rows.length : Int) 9223372036854775807) 600).toNat rows = src at *
      have h8 : l.length ≤ 8 := by omega
      have hv := shRow_vd hf h8
      have th : Three l := fun r hr => by obtain ⟨a, b, c, e, _⟩ := hf r hr; exact ⟨a, b, c, e⟩
      obtain ⟨b0, b1, b01⟩ := reS_rng hf h8
      refine To.viaK (by (try simp (disch := omega) only [X.den, X.dens, X.denss, D.int_i, D.boo_b, D.str_s, D.rows_l, List.getD_cons_zero, List.getD_cons_succ, List.cons_append, List.nil_append, List.append_nil, List.length_cons, List.length_nil, decide_eq_true_eq, decide_eq_false_iff_not, Bool.not_eq_true', Bool.not_eq_false', Bool.and_eq_true, Bool.and_eq_false_iff, Bool.true_eq_false, Bool.false_eq_true, Bool.not_true, Bool.not_false, eq_self, D.len_l, wr64, not_true_eq_false, not_false_eq_true]); exact rreach_gen) ?_
      rintro _ ρ2 rfl eρ
      refine ⟨rfl, ?_⟩
      simp only [List.cons_append, List.nil_append] at eρ
      subst eρ
      rw [hv]
      obtain ⟨lo, elo⟩ : ∃ lo, reS l 0 = lo := ⟨_, rfl⟩
      obtain ⟨hi, ehi⟩ : ∃ hi, reS l 1 = hi := ⟨_, rfl⟩
      rw [elo] at b0 b01 ⊢
      rw [ehi] at b1 b01 ⊢
      refine To.viaK (by (try simp (disch := omega) only [X.den, X.dens, X.denss, D.int_i, D.boo_b, D.str_s, D.rows_l, List.getD_cons_zero, List.getD_cons_succ, List.cons_append, List.nil_append, List.append_nil, List.length_cons, List.length_nil, decide_eq_true_eq, decide_eq_false_iff_not, Bool.not_eq_true', Bool.not_eq_false', Bool.and_eq_true, Bool.and_eq_false_iff, Bool.true_eq_false, Bool.false_eq_true, Bool.not_true, Bool.not_false, eq_self, D.len_l, wr64, not_true_eq_false, not_false_eq_true]); exact srcN_to h1 (by omega) (by omega)) ?_
      rintro _ ρ2 ⟨n, t2, rfl, p2, q2, h2⟩ eρ
      refine ⟨rfl, ?_⟩
      simp only [List.cons_append, List.nil_append] at eρ
      subst eρ
      obtain ⟨t, et⟩ : ∃ t, lo + n = t := ⟨_, rfl⟩
      refine To.need (by simp only [X.den, X.dens, X.denss, D.int_i, D.boo_b, D.str_s, D.rows_l, List.getD_cons_zero, List.getD_cons_succ, List.cons_append, List.nil_append, List.append_nil, List.length_cons, List.length_nil, decide_eq_true_eq, decide_eq_false_iff_not, Bool.not_eq_true', Bool.not_eq_false', Bool.and_eq_true, Bool.and_eq_false_iff, Bool.true_eq_false, Bool.false_eq_true, Bool.not_true, Bool.not_false, eq_self, D.len_l]; omega) ?_
      have ok0 : ∀ i : Int, 0 ≤ i → i < l.length → okS l i ∧ -9 ≤ ce l 0 i ∧ ce l 1 i ≤ 16 := fun i a b => shRow_ok hf a b
      refine To.loopK (fun m o => ∃ (y : List (List D)) (at_ : Int) (k : Nat), o = [.l y, .l src, .i at_, .i k] ∧ SrcOk src at_ ∧ k + m = l.length ∧ y.length = l.length ∧ Three y ∧ (∀ i : Int, 0 ≤ i → i < l.length → ce y 2 i = ce l 2 i) ∧ (∀ i : Int, 0 ≤ i → i < k → ce l 0 i - 3 ≤ ce y 0 i ∧ ce y 0 i ≤ ce l 0 i ∧ ce l 1 i ≤ ce y 1 i ∧ ce y 1 i ≤ ce l 1 i + 3) ∧ (∀ i : Int, k ≤ i → i < l.length → ce y 0 i = ce l 0 i ∧ ce y 1 i = ce l 1 i))
        (fun o => ∃ (y : List (List D)) (at_ : Int), o = [.l y, .l src, .i at_] ∧ SrcOk src at_ ∧ y.length = l.length ∧ (∀ i : Int, 0 ≤ i → i < l.length → ce y 2 i = ce l 2 i) ∧ (∀ i : Int, 0 ≤ i → i < l.length → ce l 0 i - 3 ≤ ce y 0 i ∧ ce y 0 i ≤ ce l 0 i ∧ ce l 1 i ≤ ce y 1 i ∧ ce y 1 i ≤ ce l 1 i + 3)) l.length (by omega) ?_ ?_ ?_
      · exact ⟨l, t2, 0, rfl, h2, by omega, rfl, th, fun i _ _ => rfl, by intro i; omega, fun i _ _ => ⟨rfl, rfl⟩⟩
      · rintro m o ρ2 ⟨y, at_, k, rfl, hs, hk, hy, h3, hc, hb, ha⟩ eρ
        simp only [List.cons_append, List.nil_append] at eρ
        subst eρ
        refine To.ite (fun c => ?_) (fun c => ?_) <;> simp only [X.den, X.dens, X.denss, D.int_i, D.boo_b, D.str_s, D.rows_l, List.getD_cons_zero, List.getD_cons_succ, List.cons_append, List.nil_append, List.append_nil, List.length_cons, List.length_nil, decide_eq_true_eq, decide_eq_false_iff_not, Bool.not_eq_true', Bool.not_eq_false', Bool.and_eq_true, Bool.and_eq_false_iff, Bool.true_eq_false, Bool.false_eq_true, Bool.not_true, Bool.not_false, eq_self, D.len_l] at c
        · refine To.need (by simp only [X.den, X.dens, X.denss, D.int_i, D.boo_b, D.str_s, D.rows_l, List.getD_cons_zero, List.getD_cons_succ, List.cons_append, List.nil_append, List.append_nil, List.length_cons, List.length_nil, decide_eq_true_eq, decide_eq_false_iff_not, Bool.not_eq_true', Bool.not_eq_false', Bool.and_eq_true, Bool.and_eq_false_iff, Bool.true_eq_false, Bool.false_eq_true, Bool.not_true, Bool.not_false, eq_self, D.len_l]; omega) ?_
          refine To.viaK (by (try simp (disch := omega) only [X.den, X.dens, X.denss, D.int_i, D.boo_b, D.str_s, D.rows_l, List.getD_cons_zero, List.getD_cons_succ, List.cons_append, List.nil_append, List.append_nil, List.length_cons, List.length_nil, decide_eq_true_eq, decide_eq_false_iff_not, Bool.not_eq_true', Bool.not_eq_false', Bool.and_eq_true, Bool.and_eq_false_iff, Bool.true_eq_false, Bool.false_eq_true, Bool.not_true, Bool.not_false, eq_self, D.len_l, wr64, not_true_eq_false, not_false_eq_true]); exact srcN_to hs (by omega) (by omega)) ?_
          rintro _ ρ2 ⟨n1, t3, rfl, p3, q3, h4⟩ eρ
          refine ⟨rfl, ?_⟩
          simp only [List.cons_append, List.nil_append] at eρ
          subst eρ
          refine To.viaK (by (try simp (disch := omega) only [X.den, X.dens, X.denss, D.int_i, D.boo_b, D.str_s, D.rows_l, List.getD_cons_zero, List.getD_cons_succ, List.cons_append, List.nil_append, List.append_nil, List.length_cons, List.length_nil, decide_eq_true_eq, decide_eq_false_iff_not, Bool.not_eq_true', Bool.not_eq_false', Bool.and_eq_true, Bool.and_eq_false_iff, Bool.true_eq_false, Bool.false_eq_true, Bool.not_true, Bool.not_false, eq_self, D.len_l, wr64, not_true_eq_false, not_false_eq_true]); exact srcN_to h4 (by omega) (by omega)) ?_
          rintro _ ρ2 ⟨n2, t4, rfl, p4, q4, h5⟩ eρ
          refine ⟨rfl, ?_⟩
          simp only [List.cons_append, List.nil_append] at eρ
          subst eρ
          have o1 := ok0 k (by omega) (by omega)
          have a1 := ha k (by omega) (by omega)
          simp only [okS] at o1
          obtain ⟨lo', el⟩ : ∃ v, ce y 0 k - n1 = v := ⟨_, rfl⟩
          obtain ⟨hi', eh⟩ : ∃ v, ce y 1 k + n2 = v := ⟨_, rfl⟩
          have kl : (k : Int) < y.length := by omega
          have w3 := put3_three (v := lo') h3 (show (0 : Int) ≤ k by omega) kl (show 0 < 2 by decide)
          have kl2 : (k : Int) < (put3 y k 0 lo').length := by rw [put3_len]; exact kl
          have ca : ∀ i : Int, 0 ≤ i → ∀ c', c' < 3 → _ := fun i i0 c' hc' => put3_ce (v := lo') (i := i) h3 (show (0 : Int) ≤ k by omega) kl i0 (show 0 < 2 by decide) c' hc'
          have cb : ∀ i : Int, 0 ≤ i → ∀ c', c' < 3 → _ := fun i i0 c' hc' => put3_ce (v := hi') (i := i) w3 (show (0 : Int) ≤ k by omega) kl2 i0 (show 1 < 2 by decide) c' hc'
          refine To.ret (.inl ⟨rfl, m - 1, by omega, put3 (put3 y k 0 lo') k 1 hi', t4, k + 1, ?_, h5, by omega, by rw [put3_len, put3_len]; exact hy, put3_three w3 (by omega) kl2 (by decide), fun i i0 i1 => ?_, fun i i0 i1 => ?_, fun i i0 i1 => ?_⟩)
          · simp (disch := omega) only [X.den, X.dens, X.denss, D.int_i, D.boo_b, D.str_s, D.rows_l, List.getD_cons_zero, List.getD_cons_succ, List.cons_append, List.nil_append, List.append_nil, List.length_cons, List.length_nil, wr64, ce_def, put3_def, nat_succ, el, eh]
          · rw [cb i i0 2 (by decide), if_neg (by omega), ca i i0 2 (by decide), if_neg (by omega)]; exact hc i i0 i1
          · have e0 : ce (put3 (put3 y k 0 lo') k 1 hi') 0 i = if i = k then lo' else ce y 0 i := by
              rw [cb i i0 0 (by decide), if_neg (by omega), ca i i0 0 (by decide)]
              simp
            have e1 : ce (put3 (put3 y k 0 lo') k 1 hi') 1 i = if i = k then hi' else ce y 1 i := by
              rw [cb i i0 1 (by decide), ca i i0 1 (by decide), if_neg (c := i = (k : Int) ∧ 1 = 0) (by omega)]
              simp
            rw [e0, e1]
            by_cases q : i = k
            · rw [if_pos q, if_pos q]
              subst q
              omega
            · rw [if_neg q, if_neg q]
              exact hb i i0 (by omega)
          · rw [cb i (by omega) 0 (by decide), if_neg (by omega), ca i (by omega) 0 (by decide), if_neg (by omega), cb i (by omega) 1 (by decide), if_neg (by omega), ca i (by omega) 1 (by decide), if_neg (by omega)]
            exact ha i (by omega) i1
        · obtain rfl : k = l.length := by omega
          exact To.ret (.inr ⟨rfl, y, at_, by simp only [X.den, X.dens, X.denss, D.int_i, D.boo_b, D.str_s, D.rows_l, List.getD_cons_zero, List.getD_cons_succ, List.cons_append, List.nil_append, List.append_nil, List.length_cons, List.length_nil], hs, hy, hc, hb⟩)
      rintro o ρ2 ⟨w, at_, rfl, h3, wl, wc, wb⟩ eρ
      simp only [List.cons_append, List.nil_append] at eρ
      subst eρ
      refine ⟨rfl, ?_⟩
      have okw : ∀ i : Int, 0 ≤ i → i < w.length → okS w i := fun i a b => by
        have h1 := ok0 i a (by omega)
        have h2 := wb i a (by omega)
        have h3 := wc i a (by omega)
        simp only [okS] at h1 ⊢
        omega
      have wv : vd w = 0 := vd_of (by omega) okw
      refine To.viaK (by (try simp (disch := omega) only [X.den, X.dens, X.denss, D.int_i, D.boo_b, D.str_s, D.rows_l, List.getD_cons_zero, List.getD_cons_succ, List.cons_append, List.nil_append, List.append_nil, List.length_cons, List.length_nil, decide_eq_true_eq, decide_eq_false_iff_not, Bool.not_eq_true', Bool.not_eq_false', Bool.and_eq_true, Bool.and_eq_false_iff, Bool.true_eq_false, Bool.false_eq_true, Bool.not_true, Bool.not_false, eq_self, D.len_l, wr64, not_true_eq_false, not_false_eq_true, et]); exact divide_gen (t := t) hv (by omega) (by omega)) ?_
      rintro _ ρ2 ⟨x, rfl, x1, xl, xr, xs, xL⟩ eρ
      refine ⟨rfl, ?_⟩
      simp only [List.cons_append, List.nil_append] at eρ
      subst eρ
      refine To.viaK (by (try simp (disch := omega) only [X.den, X.dens, X.denss, D.int_i, D.boo_b, D.str_s, D.rows_l, List.getD_cons_zero, List.getD_cons_succ, List.cons_append, List.nil_append, List.append_nil, List.length_cons, List.length_nil, decide_eq_true_eq, decide_eq_false_iff_not, Bool.not_eq_true', Bool.not_eq_false', Bool.and_eq_true, Bool.and_eq_false_iff, Bool.true_eq_false, Bool.false_eq_true, Bool.not_true, Bool.not_false, eq_self, D.len_l, wr64, not_true_eq_false, not_false_eq_true, et]); exact divide_gen (t := t) wv (by omega) (by omega)) ?_
      rintro _ ρ2 ⟨y, rfl, y1, yl, yr, ys, yL⟩ eρ
      refine ⟨rfl, ?_⟩
      simp only [List.cons_append, List.nil_append] at eρ
      subst eρ
      have slo : sumf (ce l 0) l.length = lo := by rw [← elo, reS, if_pos hv]
      have shi : sumf (ce l 1) l.length = hi := by rw [← ehi, reS, if_pos hv]
      have wlo : sumf (ce w 0) l.length ≤ lo := by rw [← slo]; exact sumf_le fun i a b => (wb i a b).2.1
      have whi : hi ≤ sumf (ce w 1) l.length := by rw [← shi]; exact sumf_le fun i a b => (wb i a b).2.2.1
      have g0 : goal l t = t := by rw [goal, elo, ehi]; omega
      have g1 : goal w t = t := by rw [goal, reS, reS, if_pos wv, if_pos wv, wl]; omega
      have inx : InR l x := ⟨xl, xr⟩
      have iny : InR w y := ⟨yl, yr⟩
      have su1 : suS l x = (sumf (cost l x) l.length, 0) := by rw [suS, if_pos hv, if_pos xl, if_pos (inr_true.2 inx)]
      have su2 : suS w y = (sumf (cost w y) l.length, 0) := by rw [suS, if_pos wv, if_pos yl, if_pos (inr_true.2 iny), wl]
      have best : sumf (cost w y) l.length ≤ sumf (cost l x) l.length := by
        have a := noMove_least (n := l.length) (lo := ce w 0) (hi := ce w 1) (c := ce w 2) (x := ce y 0) (y := ce x 0) (fun i a b => by have := okw i a (by omega); simp only [okS] at this; omega) (fun i a b => by have := wb i a b; have := xr i a b; omega) (by rw [← wl]; exact yL.noMove) (by rw [xs, g0, ← wl, ys, g1])
        have b : sumf (fun i => ce w 2 i * ce x 0 i * ce x 0 i) l.length = sumf (cost l x) l.length := sumf_congr fun i a b => by rw [wc i a b]; rfl
        rw [b] at a
        exact a
      refine To.viaK (by (try simp (disch := omega) only [X.den, X.dens, X.denss, D.int_i, D.boo_b, D.str_s, D.rows_l, List.getD_cons_zero, List.getD_cons_succ, List.cons_append, List.nil_append, List.append_nil, List.length_cons, List.length_nil, decide_eq_true_eq, decide_eq_false_iff_not, Bool.not_eq_true', Bool.not_eq_false', Bool.and_eq_true, Bool.and_eq_false_iff, Bool.true_eq_false, Bool.false_eq_true, Bool.not_true, Bool.not_false, eq_self, D.len_l, wr64, not_true_eq_false, not_false_eq_true]); exact sum_gen (l := l) (x := x)) ?_
      rintro _ ρ2 rfl eρ
      refine ⟨rfl, ?_⟩
      simp only [List.cons_append, List.nil_append] at eρ
      subst eρ
      refine To.viaK (by (try simp (disch := omega) only [X.den, X.dens, X.denss, D.int_i, D.boo_b, D.str_s, D.rows_l, List.getD_cons_zero, List.getD_cons_succ, List.cons_append, List.nil_append, List.append_nil, List.length_cons, List.length_nil, decide_eq_true_eq, decide_eq_false_iff_not, Bool.not_eq_true', Bool.not_eq_false', Bool.and_eq_true, Bool.and_eq_false_iff, Bool.true_eq_false, Bool.false_eq_true, Bool.not_true, Bool.not_false, eq_self, D.len_l, wr64, not_true_eq_false, not_false_eq_true]); exact sum_gen (l := w) (x := y)) ?_
      rintro _ ρ2 rfl eρ
      refine ⟨rfl, ?_⟩
      simp only [List.cons_append, List.nil_append] at eρ
      subst eρ
      rw [su1, su2]
      have ov : vd [[.i (-3), .i 9, .i 2]] = 0 := vd_of (by decide) fun i a b => by
        obtain rfl : i = 0 := by simp at b; omega
        simp [okS, ce, D.cell, D.rows, D.int]
      have og : goal [[.i (-3), .i 9, .i 2]] t = max (-3) (min t 9) := by
        have s0 : reS [[.i (-3), .i 9, .i 2]] 0 = -3 := by rw [reS, if_pos ov]; rfl
        have s1 : reS [[.i (-3), .i 9, .i 2]] 1 = 9 := by rw [reS, if_pos ov]; rfl
        rw [goal, s0, s1]
      refine To.viaK (by (try simp (disch := omega) only [X.den, X.dens, X.denss, D.int_i, D.boo_b, D.str_s, D.rows_l, List.getD_cons_zero, List.getD_cons_succ, List.cons_append, List.nil_append, List.append_nil, List.length_cons, List.length_nil, decide_eq_true_eq, decide_eq_false_iff_not, Bool.not_eq_true', Bool.not_eq_false', Bool.and_eq_true, Bool.and_eq_false_iff, Bool.true_eq_false, Bool.false_eq_true, Bool.not_true, Bool.not_false, eq_self, D.len_l, wr64, not_true_eq_false, not_false_eq_true, et, X.denss]); exact divide_gen (t := t) ov (by omega) (by omega)) ?_
      rintro _ ρ2 ⟨z, rfl, z1, zl, zr, zs, zL⟩ eρ
      refine ⟨rfl, ?_⟩
      simp only [List.cons_append, List.nil_append] at eρ
      subst eρ
      have zl1 : z.length = 1 := zl
      have z0 : ce z 0 0 = max (-3) (min t 9) := by
        rw [← og, ← zs]
        show _ = 0 + ce z 0 ((0 : Nat) : Int)
        simp
      refine To.joinK (fun o => o = [.b true]) ?_ ?_
      · refine To.yes rfl (To.yes rfl (To.yes rfl (To.yes rfl (To.yes rfl (To.yes (by simp only [X.den, X.dens, X.denss, D.int_i, D.boo_b, D.str_s, D.rows_l, List.getD_cons_zero, List.getD_cons_succ, List.cons_append, List.nil_append, List.append_nil, List.length_cons, List.length_nil, decide_eq_true_eq, decide_eq_false_iff_not, Bool.not_eq_true', Bool.not_eq_false', Bool.and_eq_true, Bool.and_eq_false_iff, Bool.true_eq_false, Bool.false_eq_true, Bool.not_true, Bool.not_false, eq_self]; omega) (To.no (by simp only [X.den, X.dens, X.denss, D.int_i, D.boo_b, D.str_s, D.rows_l, List.getD_cons_zero, List.getD_cons_succ, List.cons_append, List.nil_append, List.append_nil, List.length_cons, List.length_nil, decide_eq_true_eq, decide_eq_false_iff_not, Bool.not_eq_true', Bool.not_eq_false', Bool.and_eq_true, Bool.and_eq_false_iff, Bool.true_eq_false, Bool.false_eq_true, Bool.not_true, Bool.not_false, eq_self]; omega) ?_))))))
        refine To.yes (by simp only [X.den, X.dens, X.denss, D.int_i, D.boo_b, D.str_s, D.rows_l, List.getD_cons_zero, List.getD_cons_succ, List.cons_append, List.nil_append, List.append_nil, List.length_cons, List.length_nil, decide_eq_true_eq, decide_eq_false_iff_not, Bool.not_eq_true', Bool.not_eq_false', Bool.and_eq_true, Bool.and_eq_false_iff, Bool.true_eq_false, Bool.false_eq_true, Bool.not_true, Bool.not_false, eq_self, D.len_l]; omega) ?_
        refine To.need (by simp only [X.den, X.dens, X.denss, D.int_i, D.boo_b, D.str_s, D.rows_l, List.getD_cons_zero, List.getD_cons_succ, List.cons_append, List.nil_append, List.append_nil, List.length_cons, List.length_nil, decide_eq_true_eq, decide_eq_false_iff_not, Bool.not_eq_true', Bool.not_eq_false', Bool.and_eq_true, Bool.and_eq_false_iff, Bool.true_eq_false, Bool.false_eq_true, Bool.not_true, Bool.not_false, eq_self, D.len_l]; omega) ?_
        refine To.joinK (fun o => o = [.i (ce z 0 0)]) ?_ ?_
        · (repeat' (refine To.ite (fun c => ?_) (fun c => ?_) <;> simp (disch := omega) only [X.den, X.dens, X.denss, D.int_i, D.boo_b, D.str_s, D.rows_l, List.getD_cons_zero, List.getD_cons_succ, List.cons_append, List.nil_append, List.append_nil, List.length_cons, List.length_nil, decide_eq_true_eq, decide_eq_false_iff_not, Bool.not_eq_true', Bool.not_eq_false', Bool.and_eq_true, Bool.and_eq_false_iff, Bool.true_eq_false, Bool.false_eq_true, Bool.not_true, Bool.not_false, eq_self, wr64, et] at c))
          all_goals (refine To.ret ⟨rfl, ?_⟩; simp (disch := omega) only [X.den, X.dens, X.denss, D.int_i, D.boo_b, D.str_s, D.rows_l, List.getD_cons_zero, List.getD_cons_succ, List.cons_append, List.nil_append, List.append_nil, List.length_cons, List.length_nil, wr64, et, List.cons.injEq, D.i.injEq, and_true]; omega)
        rintro o ρ2 rfl eρ
        simp only [List.cons_append, List.nil_append] at eρ
        subst eρ
        refine To.yes (by simp only [X.den, X.dens, X.denss, D.int_i, D.boo_b, D.str_s, D.rows_l, List.getD_cons_zero, List.getD_cons_succ, List.cons_append, List.nil_append, List.append_nil, List.length_cons, List.length_nil, decide_eq_true_eq, decide_eq_false_iff_not, Bool.not_eq_true', Bool.not_eq_false', Bool.and_eq_true, Bool.and_eq_false_iff, Bool.true_eq_false, Bool.false_eq_true, Bool.not_true, Bool.not_false, eq_self, ce_def]) ?_
        refine To.yes (by simp (disch := omega) only [X.den, X.dens, X.denss, D.int_i, D.boo_b, D.str_s, D.rows_l, List.getD_cons_zero, List.getD_cons_succ, List.cons_append, List.nil_append, List.append_nil, List.length_cons, List.length_nil, decide_eq_true_eq, decide_eq_false_iff_not, Bool.not_eq_true', Bool.not_eq_false', Bool.and_eq_true, Bool.and_eq_false_iff, Bool.true_eq_false, Bool.false_eq_true, Bool.not_true, Bool.not_false, eq_self, ce_def, wr64, et]; omega) ?_
        refine To.callK (l := [.b true]) rfl rfl _ (by simp only [List.cons_append, List.nil_append]; first | done | rfl) ?_
        exact To.ret ⟨rfl, by simp only [X.den, X.dens, X.denss, D.int_i, D.boo_b, D.str_s, D.rows_l, List.getD_cons_zero, List.getD_cons_succ, List.cons_append, List.nil_append, List.append_nil, List.length_cons, List.length_nil]⟩
      rintro o ρ2 rfl eρ
      simp only [List.cons_append, List.nil_append] at eρ
      subst eρ
      exact To.ret (by simp only [X.den, X.dens, X.denss, D.int_i, D.boo_b, D.str_s, D.rows_l, List.getD_cons_zero, List.getD_cons_succ, List.cons_append, List.nil_append, List.append_nil, List.length_cons, List.length_nil])
    · cases h
theorem ShareRanges_walk {w : World} (v : Value) (zs : List Int) (h : IntsIn w w.heap.size v .i64 zs) (hz : ∀ z ∈ zs, (Lit.int .i64 z).wf = true) : Calls Try.prog 8 #[v] w fun e w' => e = .returned (.bool true) ∧ Below w.heap.size w w' :=
  con_law ShareRanges_ok rfl (fun G hG => args_ints h hG (by trivial)) (by simp [shRan_K]) (ds := [numD zs]) rfl
end Go.Proofs.Ytlhnhidoljfnnaa
