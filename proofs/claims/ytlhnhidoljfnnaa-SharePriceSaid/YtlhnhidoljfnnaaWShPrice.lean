/- SharePrice. -/
import Derived.Test.YtlhnhidoljfnnaaShrS
import Derived.Test.YtlhnhidoljfnnaaShrR
set_option linter.unusedVariables false
set_option linter.unusedSimpArgs false
namespace Go.Proofs.Ytlhnhidoljfnnaa
open Go.RowKit Fx Sh
def shPri_H : List Hint := [
  ⟨17944030165860620, 26, [.t [.int .i64, .int .i64, .int .i64] 22], ⟨[.und, .und, .bool (.B false), .ptr 0 0, .und, .und, .und, .und, .int .i64 (.wr .i64 (.add (.V 4) (.V 7))), .und, .und, .und, .und, .und, .und, .und, .und, .und, .und, .und, .und, .int .i64 (.wr .i64 (.add (.N 1) (.V 23))), .var 9, .int .i64 (.V 29), .und, .und, .und, .und, .und, .und, .und, .und, .und, .und, .und, .und, .und, .und, .und, .und, .und, .und, .und, .und, .und, .und, .und, .und, .und, .und, .und, .und, .und, .und, .und, .und, .und, .und, .und, .und, .und, .und, .und, .und, .und, .und, .und, .und, .und, .und, .und, .und, .und, .und, .und, .und, .und, .und, .und, .und, .und, .und, .und, .und, .und, .und, .und, .und, .und, .und, .und, .und, .und, .und, .und, .und, .und, .und, .und, .und, .und, .und, .und, .und, .und, .und, .und, .und, .und, .und, .und, .und, .und, .und, .und, .und, .und, .und, .und, .und, .und, .und, .und, .und, .und, .und, .und, .und, .und, .und, .und, .und, .und, .und, .und, .und, .und, .und, .und, .und, .und, .und, .und, .und, .und, .und, .und, .und, .und, .und, .und, .und, .und, .und, .und, .und, .und, .und, .und, .und, .und, .und, .und, .und, .und, .und, .und, .und, .und, .und, .und, .und, .und, .und], [.fix [.var 10, .int .i64 (.V 28)] true, .rows [.int .i64, .int .i64, .int .i64] (.V 26) 9], 30, 11, [none, none, none, none, none, none, none, none, none, none, none, none, none, none, none, none, none, none, none, none, none, none, none, none, none, none, none, none, none, none], [], [⟨0, [.int .i64], (.V 0)⟩, ⟨1, [.int .i64], (.take (.V 0) (.mn (.len (.V 0)) (.N 600)))⟩, ⟨2, [.int .i64, .int .i64, .int .i64], (.V 1)⟩, ⟨3, [.int .i64], (.V 2)⟩, ⟨4, [.int .i64], (.V 8)⟩, ⟨5, [.int .i64], (.V 10)⟩, ⟨6, [.int .i64], (.V 13)⟩, ⟨7, [.int .i64], (.V 24)⟩, ⟨10, [.int .i64], (.V 27)⟩]⟩⟩,
  ⟨18014398830338052, 33, [], ⟨[.und, .und, .bool (.B false), .und, .und, .und, .und, .und, .und, .und, .und, .und, .und, .und, .und, .und, .und, .und, .und, .und, .und, .int .i64 (.wr .i64 (.add (.N 1) (.V 23))), .und, .und, .var 11, .int .i64 (.V 30), .und, .und, .und, .und, .und, .und, .und, .und, .und, .und, .und, .und, .und, .und, .und, .und, .und, .und, .und, .und, .und, .und, .und, .und, .und, .und, .und, .und, .und, .und, .und, .und, .und, .und, .und, .und, .und, .und, .und, .und, .und, .und, .und, .und, .und, .und, .und, .und, .und, .und, .und, .und, .und, .und, .und, .und, .und, .und, .und, .und, .und, .und, .und, .und, .und, .und, .und, .und, .und, .und, .und, .und, .und, .und, .und, .und, .und, .und, .und, .und, .und, .und, .und, .und, .und, .und, .und, .und, .und, .und, .und, .und, .und, .und, .und, .und, .und, .und, .und, .und, .und, .und, .und, .und, .und, .und, .und, .var 11, .int .i64 (.len (.V 29)), .int .i64 (.V 33), .und, .und, .und, .und, .und, .und, .und, .und, .und, .und, .und, .und, .und, .und, .und, .und, .und, .und, .und, .und, .und, .und, .und, .und, .und, .und, .und, .und, .und, .und, .und, .und, .und, .und, .und, .und, .und, .und], [.fix [.var 10, .int .i64 (.V 28)] true, .none], 34, 12, [none, none, none, none, none, none, none, none, none, none, none, none, none, none, none, none, none, none, none, none, none, none, none, none, none, none, none, none, none, none, none, none, none, none], [], [⟨0, [.int .i64], (.V 0)⟩, ⟨1, [.int .i64], (.take (.V 0) (.mn (.len (.V 0)) (.N 600)))⟩, ⟨2, [.int .i64, .int .i64, .int .i64], (.V 1)⟩, ⟨3, [.int .i64], (.V 2)⟩, ⟨4, [.int .i64], (.V 8)⟩, ⟨5, [.int .i64], (.V 10)⟩, ⟨6, [.int .i64], (.V 13)⟩, ⟨7, [.int .i64], (.V 24)⟩, ⟨10, [.int .i64], (.V 27)⟩, ⟨9, [.int .i64, .int .i64, .int .i64], (.V 26)⟩, ⟨11, [.int .i64], (.V 29)⟩]⟩⟩]
def shPri_K : Con := ⟨6, [.val false [.sl [.int .i64]]], [.val false [.bool]], []⟩
def shPri_T : T (List X) :=
  (.need (.not (.lt (.len (.V 0)) (.mn (.len (.V 0)) (.N 600))))
  (.call 16 [(.take (.V 0) (.mn (.len (.V 0)) (.N 600))), (.N 0), (.N 5)] 3
   (.call 19 [(.V 1)] 3
    (.call 26 [(.V 2), (.V 3), (.wr .i64 (.add (.wr .i64 (.sub (.V 5) (.V 4))) (.N 1)))] 3
     (.call 23 [(.V 1), (.wr .i64 (.add (.V 4) (.V 7)))] 3
      (.call 23 [(.V 1), (.mn (.wr .i64 (.add (.wr .i64 (.add (.V 4) (.V 7))) (.N 3))) (.V 5))] 3
       (.call 29 [(.V 1), (.V 10)] 3
        (.call 29 [(.V 1), (.V 13)] 3
         (.sub (.ite (.eq (.V 12) (.N 0))
           (.ite (.eq (.V 15) (.N 0))
            (.ite (.V 18)
             (.ite (.lt (.V 17) (.V 16))
              (.ret [(.B true)])
              (.ite (.V 21)
               (.ite (.lt (.V 19) (.V 16))
                (.ret [(.B true)])
                (.ret [(.lt (.V 20) (.V 17))]))
               (.ret [(.B false)])))
             (.ret [(.B false)]))
            (.ret [(.B true)]))
           (.ret [(.B true)])) 1
          (.ite (.V 22)
           (.ret [(.B false)])
           (.call 26 [(.V 8), (.V 9), (.N 6)] 3
            (.loop [(.rows []), (.V 24), (.V 25), (.N 0)]
             (.ite (.lt (.V 29) (.wr .i64 (.add (.N 1) (.V 23))))
              (.call 26 [(.V 27), (.V 28), (.N 1)] 3
               (.need (.and (.not (.lt (.V 30) (.N 0))) (.lt (.V 30) (.N 1)))
                (.need (.not (.lt (.N 5864062014805) (.add (.len (.V 26)) (.N 1))))
                 (.ret (true, [(.app (.V 26) (.rows [[(.N (-9)), (.N 20), (.at (.rows [[(.N 4)]]) (.V 30) 0)]])), (.V 31), (.V 32), (.wr .i64 (.add (.V 29) (.N 1)))])))))
              (.ret (false, [(.V 26), (.V 27), (.V 28)]))) 3
             (.call 23 [(.V 26), (.wr .i64 (.add (.V 4) (.V 7)))] 3
              (.sub (.ite (.eq (.V 31) (.N 0))
                (.ret [(.not (.eq (.len (.V 29)) (.wr .i64 (.add (.N 1) (.V 23)))))])
                (.ret [(.B true)])) 1
               (.ite (.V 32)
                (.ret [(.B false)])
                (.loop [(.N 0)]
                 (.ite (.lt (.V 33) (.len (.V 29)))
                  (.need (.and (.not (.lt (.V 33) (.N 0))) (.lt (.V 33) (.len (.V 29))))
                   (.sub (.need (.and (.not (.lt (.wr .i64 (.sub (.wr .i64 (.add (.N 1) (.V 23))) (.N 1))) (.N 0))) (.lt (.wr .i64 (.sub (.wr .i64 (.add (.N 1) (.V 23))) (.N 1))) (.len (.V 29))))
                     (.ite (.lt (.N 1) (.wr .i64 (.sub (.at (.V 29) (.V 33) 0) (.at (.V 29) (.wr .i64 (.sub (.wr .i64 (.add (.N 1) (.V 23))) (.N 1))) 0))))
                      (.ret [(.B true)])
                      (.ret [(.lt (.at (.V 29) (.V 33) 0) (.at (.V 29) (.wr .i64 (.sub (.wr .i64 (.add (.N 1) (.V 23))) (.N 1))) 0))]))) 1
                    (.ite (.V 34)
                     (.ret (false, [(.N 0)]))
                     (.ret (true, [(.wr .i64 (.add (.V 33) (.N 1)))])))))
                  (.ret (false, [(.N 1)]))) 1
                 (.ite (.eq (.V 33) (.N 0))
                  (.ret [(.B false)])
                  (.sub (.ite (.eq (.V 30) (.N 0))
                    (.call 14 [] 1
                     (.ret [(.V 34)]))
                    (.need (.lt (.N 0) (.len (.V 29)))
                     (.ite (.eq (.at (.V 29) (.N 0) 0) (.N (-9)))
                      (.call 14 [] 1
                       (.ret [(.V 34)]))
                      (.ite (.eq (.at (.V 29) (.N 0) 0) (.N 20))
                       (.call 14 [] 1
                        (.ret [(.V 34)]))
                       (.ret [(.B false)]))))) 1
                   (.ret [(.V 34)])))))))))))))))))))
set_option maxRecDepth 100000 in
theorem shPri_t : runS Try.prog [srcN_K.to [], srcShares_K.to [], rRea13_K.to [], shDivide_K.to [], shPrice_K.to [], sane13_K.to []] [(6, shPri_H)] shPri_K = shPri_T := by kernel_rfl
theorem price_to {l x : List (List D)} (hv : vd l = 0) (hx : InR l x) : ∃ o, shPrice_T.run suM 30 [.l l, .l x] = some o ∧ ∃ a b ok, o = [.i a, .i b, .b ok] ∧ (ok = true → a = loP l x l.length ∧ b = hiP l x l.length ∧ a ≠ -1000200 ∧ b ≠ 1000200) := by
  obtain ⟨o, h1, h2⟩ := price_gen (l := l) (x := x)
  refine ⟨o, h1, ?_⟩
  rw [h2]
  unfold prS
  rw [if_pos hv, if_pos (inr_true.2 hx)]
  split
  · exact ⟨_, _, _, rfl, fun h => by cases h⟩
  · split
    · exact ⟨_, _, _, rfl, fun h => by cases h⟩
    · rename_i a b
      exact ⟨_, _, _, rfl, fun _ => ⟨rfl, rfl, a, b⟩⟩
def lpM : Models := Models.on rRea13_K.f (rRea13_T.run rreM 30) l13M
theorem price_key {l x y : List (List D)} {a b c d : Int} {ok is : Bool} (hc : ∀ i : Int, 0 ≤ i → i < l.length → 1 ≤ ce l 2 i) (mono : ∀ i : Int, 0 ≤ i → i < l.length → ce x 0 i ≤ ce y 0 i) (xL : Lex l.length (ce l 0) (ce l 1) (ce l 2) (ce x 0))
    (hab : ok = true → a = loP l x l.length ∧ b = hiP l x l.length ∧ a ≠ -1000200 ∧ b ≠ 1000200) (hcd : is = true → c = loP l y l.length ∧ d = hiP l y l.length ∧ c ≠ -1000200 ∧ d ≠ 1000200) : ok = true → a ≤ b ∧ (is = true → a ≤ c ∧ b ≤ d) := by
  intro k
  obtain ⟨e1, e2, n1, n2⟩ := hab k
  have lx := loP_spec (l := l) (x := x) l.length
  have hx := hiP_spec (l := l) (x := x) l.length
  rw [← e1] at lx
  rw [← e2] at hx
  obtain ⟨i, i0, i1, il, ie⟩ := lx.2.resolve_left n1
  obtain ⟨j, j0, j1, jl, je⟩ := hx.2.resolve_left n2
  constructor
  · by_cases q : i = j
    · subst q
      have := mul_step (hc i i0 i1) (show 2 * ce x 0 i - 1 ≤ 2 * ce x 0 i + 1 by omega)
      simp only [lossF, growF] at ie je
      omega
    · have := xL.noMove i j i0 i1 j0 j1 q il jl
      simp only [lossF, growF] at ie je
      omega
  · intro k2
    obtain ⟨f1, f2, n3, n4⟩ := hcd k2
    have ly := loP_spec (l := l) (x := y) l.length
    have hy := hiP_spec (l := l) (x := y) l.length
    rw [← f1] at ly
    rw [← f2] at hy
    constructor
    · have mi := mono i i0 i1
      have a1 := ly.1 i i0 i1 (by omega)
      have a2 := mul_step (hc i i0 i1) (show 2 * ce x 0 i - 1 ≤ 2 * ce y 0 i - 1 by omega)
      simp only [lossF] at ie a1
      omega
    · obtain ⟨u, u0, u1, ul, ue⟩ := hy.2.resolve_left n4
      have mi := mono u u0 u1
      have a1 := hx.1 u u0 u1 (by omega)
      have a2 := mul_step (hc u u0 u1) (show 2 * ce x 0 u + 1 ≤ 2 * ce y 0 u + 1 by omega)
      simp only [growF] at ue a1
      omega
theorem four_pick {r : Int} (h0 : 0 ≤ r) (h1 : r < 1) : (D.l [[.i 4]]).cell r 0 = .i 4 := by
  obtain rfl : r = 0 := by omega
  rfl
theorem SharePrice_ok : ConOk Try.prog shPri_K fun ds => match ds with | [.l _] => some [.b true] | _ => none :=
  con_of follows (M := lpM) (one_con (srcN_ok.to _) (one_con (srcShares_ok.to _) (one_con (rRea13_ok.to _) (one_con (shDivide_ok.to _) (one_con (shPrice_ok.to _) (one_con (sane13_ok.to _) no_cons)))))) shPri_t fun ds outs hl h => by
    split at h
    · rename_i rows
      injection h with h
      subst h
      refine ⟨fun i l h k => by simp [shPri_K] at k, 30, ?_⟩
      unfold shPri_T
      refine To.need (by simp only [X.den, X.dens, X.denss, D.int_i, D.boo_b, D.str_s, D.rows_l, List.getD_cons_zero, List.getD_cons_succ, List.cons_append, List.nil_append, List.append_nil, List.length_cons, List.length_nil, decide_eq_true_eq, decide_eq_false_iff_not, Bool.not_eq_true', Bool.not_eq_false', Bool.and_eq_true, Bool.and_eq_false_iff, Bool.true_eq_false, Bool.false_eq_true, Bool.not_true, Bool.not_false, eq_self, D.len_l]; omega) ?_
      refine To.viaK (by (try simp (disch := omega) only [X.den, X.dens, X.denss, D.int_i, D.boo_b, D.str_s, D.rows_l, List.getD_cons_zero, List.getD_cons_succ, List.cons_append, List.nil_append, List.append_nil, List.length_cons, List.length_nil, decide_eq_true_eq, decide_eq_false_iff_not, Bool.not_eq_true', Bool.not_eq_false', Bool.and_eq_true, Bool.and_eq_false_iff, Bool.true_eq_false, Bool.false_eq_true, Bool.not_true, Bool.not_false, eq_self, D.len_l, wr64, not_true_eq_false, not_false_eq_true]); exact srcShares_to src_take13 (by omega) (by omega)) ?_
      rintro _ ρ2 ⟨l, t1, rfl, hn, hf, h1⟩ eρ
      refine ⟨rfl, ?_⟩
      simp only [List.cons_append, List.nil_append] at eρ
      subst eρ
      generalize List.take (min (min (rows.length : Int) 9223372036854775807) 600).toNat rows = src at *
      have h8 : l.length ≤ 8 := by omega
      have hv := shRow_vd hf h8
      obtain ⟨b0, b1, b01⟩ := reS_rng hf h8
      refine To.viaK (by (try simp (disch := omega) only [X.den, X.dens, X.denss, D.int_i, D.boo_b, D.str_s, D.rows_l, List.getD_cons_zero, List.getD_cons_succ, List.cons_append, List.nil_append, List.append_nil, List.length_cons, List.length_nil, decide_eq_true_eq, decide_eq_false_iff_not, Bool.not_eq_true', Bool.not_eq_false', Bool.and_eq_true, Bool.and_eq_false_iff, Bool.true_eq_false, Bool.false_eq_true, Bool.not_true, Bool.not_false, eq_self, D.len_l, wr64, not_true_eq_false, not_false_eq_true]); exact rreach_gen) ?_
      rintro _ ρ2 rfl eρ
      refine ⟨rfl, ?_⟩
      simp only [List.cons_append, List.nil_append] at eρ
      subst eρ
      rw [hv]
      obtain ⟨lo, elo⟩ : ∃ lo, reS l 0 = lo := ⟨_, rfl⟩
      obtain ⟨hi, ehi⟩ : ∃ hi, reS l 1 = hi := ⟨_, rfl⟩
      rw [elo] at b0 b01 ⊢
      rw [ehi] at b1 b01 ⊢
      refine To.viaK (by (try simp (disch := omega) only [X.den, X.dens, X.denss, D.int_i, D.boo_b, D.str_s, D.rows_l, List.getD_cons_zero, List.getD_cons_succ, List.cons_append, List.nil_append, List.append_nil, List.length_cons, List.length_nil, decide_eq_true_eq, decide_eq_false_iff_not, Bool.not_eq_true', Bool.not_eq_false', Bool.and_eq_true, Bool.and_eq_false_iff, Bool.true_eq_false, Bool.false_eq_true, Bool.not_true, Bool.not_false, eq_self, D.len_l, wr64, not_true_eq_false, not_false_eq_true]); exact srcN_to h1 (by omega) (by omega)) ?_
      rintro _ ρ2 ⟨n, t2, rfl, p2, q2, h2⟩ eρ
      refine ⟨rfl, ?_⟩
      simp only [List.cons_append, List.nil_append] at eρ
      subst eρ
      obtain ⟨t, et⟩ : ∃ t, lo + n = t := ⟨_, rfl⟩
      refine To.viaK (by (try simp (disch := omega) only [X.den, X.dens, X.denss, D.int_i, D.boo_b, D.str_s, D.rows_l, List.getD_cons_zero, List.getD_cons_succ, List.cons_append, List.nil_append, List.append_nil, List.length_cons, List.length_nil, decide_eq_true_eq, decide_eq_false_iff_not, Bool.not_eq_true', Bool.not_eq_false', Bool.and_eq_true, Bool.and_eq_false_iff, Bool.true_eq_false, Bool.false_eq_true, Bool.not_true, Bool.not_false, eq_self, D.len_l, wr64, not_true_eq_false, not_false_eq_true, et]); exact divide_gen (t := t) hv (by omega) (by omega)) ?_
      rintro _ ρ2 ⟨x, rfl, x1, xl, xr, xs, xL⟩ eρ
      refine ⟨rfl, ?_⟩
      simp only [List.cons_append, List.nil_append] at eρ
      subst eρ
      refine To.viaK (by (try simp (disch := omega) only [X.den, X.dens, X.denss, D.int_i, D.boo_b, D.str_s, D.rows_l, List.getD_cons_zero, List.getD_cons_succ, List.cons_append, List.nil_append, List.append_nil, List.length_cons, List.length_nil, decide_eq_true_eq, decide_eq_false_iff_not, Bool.not_eq_true', Bool.not_eq_false', Bool.and_eq_true, Bool.and_eq_false_iff, Bool.true_eq_false, Bool.false_eq_true, Bool.not_true, Bool.not_false, eq_self, D.len_l, wr64, not_true_eq_false, not_false_eq_true, et]); exact divide_gen (t := min (t + 3) hi) hv (by omega) (by omega)) ?_
      rintro _ ρ2 ⟨y, rfl, y1, yl, yr, ys, yL⟩ eρ
      refine ⟨rfl, ?_⟩
      simp only [List.cons_append, List.nil_append] at eρ
      subst eρ
      have g0 : goal l t = max lo (min t hi) := by rw [goal, elo, ehi]
      have g1 : goal l (min (t + 3) hi) = max lo (min (min (t + 3) hi) hi) := by rw [goal, elo, ehi]
      have hc : ∀ i : Int, 0 ≤ i → i < l.length → 1 ≤ ce l 2 i := fun i a b => by have := shRow_ok hf a b; simp only [okS] at this; omega
      have mono := lex_mono hc xr yr xL yL (by omega)
      refine To.viaK (by (try simp (disch := omega) only [X.den, X.dens, X.denss, D.int_i, D.boo_b, D.str_s, D.rows_l, List.getD_cons_zero, List.getD_cons_succ, List.cons_append, List.nil_append, List.append_nil, List.length_cons, List.length_nil, decide_eq_true_eq, decide_eq_false_iff_not, Bool.not_eq_true', Bool.not_eq_false', Bool.and_eq_true, Bool.and_eq_false_iff, Bool.true_eq_false, Bool.false_eq_true, Bool.not_true, Bool.not_false, eq_self, D.len_l, wr64, not_true_eq_false, not_false_eq_true]); exact price_to hv ⟨xl, xr⟩) ?_
      rintro _ ρ2 ⟨a, b, ok, rfl, hab⟩ eρ
      refine ⟨rfl, ?_⟩
      simp only [List.cons_append, List.nil_append] at eρ
      subst eρ
      refine To.viaK (by (try simp (disch := omega) only [X.den, X.dens, X.denss, D.int_i, D.boo_b, D.str_s, D.rows_l, List.getD_cons_zero, List.getD_cons_succ, List.cons_append, List.nil_append, List.append_nil, List.length_cons, List.length_nil, decide_eq_true_eq, decide_eq_false_iff_not, Bool.not_eq_true', Bool.not_eq_false', Bool.and_eq_true, Bool.and_eq_false_iff, Bool.true_eq_false, Bool.false_eq_true, Bool.not_true, Bool.not_false, eq_self, D.len_l, wr64, not_true_eq_false, not_false_eq_true]); exact price_to hv ⟨yl, yr⟩) ?_
      rintro _ ρ2 ⟨c, d, is, rfl, hcd⟩ eρ
      refine ⟨rfl, ?_⟩
      simp only [List.cons_append, List.nil_append] at eρ
      subst eρ
      have key := price_key hc mono xL hab hcd
      refine To.joinK (fun o => o = [.b false]) ?_ ?_
      · (repeat' (refine To.ite (fun c => ?_) (fun c => ?_) <;> simp (disch := omega) only [X.den, X.dens, X.denss, D.int_i, D.boo_b, D.str_s, D.rows_l, List.getD_cons_zero, List.getD_cons_succ, List.cons_append, List.nil_append, List.append_nil, List.length_cons, List.length_nil, decide_eq_true_eq, decide_eq_false_iff_not, Bool.not_eq_true', Bool.not_eq_false', Bool.and_eq_true, Bool.and_eq_false_iff, Bool.true_eq_false, Bool.false_eq_true, Bool.not_true, Bool.not_false, eq_self] at c))
        all_goals first
          | (exfalso; omega)
          | (refine To.ret ⟨rfl, ?_⟩; simp only [X.den, X.dens, X.denss, D.int_i, D.boo_b, D.str_s, D.rows_l, List.getD_cons_zero, List.getD_cons_succ, List.cons_append, List.nil_append, List.append_nil, List.length_cons, List.length_nil]; done)
          | (exfalso; have := (key (by assumption)).1; omega)
          | (exfalso; have := (key (by assumption)).2 (by assumption); omega)
          | (refine To.ret ⟨rfl, ?_⟩; simp only [X.den, X.dens, X.denss, D.int_i, D.boo_b, D.str_s, D.rows_l, List.getD_cons_zero, List.getD_cons_succ, List.cons_append, List.nil_append, List.append_nil, List.length_cons, List.length_nil]; rw [decide_eq_false (by have := (key (by assumption)).2 (by assumption); omega)])
          | (exfalso; contradiction)
      rintro o ρ2 rfl eρ
      simp only [List.cons_append, List.nil_append] at eρ
      subst eρ
      refine To.no rfl ?_
      refine To.viaK (by (try simp (disch := omega) only [X.den, X.dens, X.denss, D.int_i, D.boo_b, D.str_s, D.rows_l, List.getD_cons_zero, List.getD_cons_succ, List.cons_append, List.nil_append, List.append_nil, List.length_cons, List.length_nil, decide_eq_true_eq, decide_eq_false_iff_not, Bool.not_eq_true', Bool.not_eq_false', Bool.and_eq_true, Bool.and_eq_false_iff, Bool.true_eq_false, Bool.false_eq_true, Bool.not_true, Bool.not_false, eq_self, D.len_l, wr64, not_true_eq_false, not_false_eq_true]); exact srcN_to h2 (by omega) (by omega)) ?_
      rintro _ ρ2 ⟨k, t3, rfl, p3, q3, h3⟩ eρ
      refine ⟨rfl, ?_⟩
      simp only [List.cons_append, List.nil_append] at eρ
      subst eρ
      refine To.loopK (fun m o => ∃ (s : List (List D)) (at_ : Int) (j : Nat), o = [.l s, .l src, .i at_, .i j] ∧ SrcOk src at_ ∧ j + (m : Int) = 1 + k ∧ s = List.replicate j [.i (-9), .i 20, .i 4]) (fun o => ∃ (s : List (List D)) (at_ : Int) (j : Nat), o = [.l s, .l src, .i at_] ∧ (j : Int) = 1 + k ∧ s = List.replicate j [.i (-9), .i 20, .i 4]) (1 + k).toNat (by omega) ?_ ?_ ?_
      · exact ⟨[], t3, 0, by simp only [X.den, X.dens, X.denss, D.int_i, D.boo_b, D.str_s, D.rows_l, List.getD_cons_zero, List.getD_cons_succ, List.cons_append, List.nil_append, List.append_nil, List.length_cons, List.length_nil, X.denss]; rfl, h3, by omega, rfl⟩
      · rintro m o ρ2 ⟨s, at_, j, rfl, hs, hj, hr⟩ eρ
        simp only [List.cons_append, List.nil_append] at eρ
        subst eρ
        have sl : s.length = j := by rw [hr, List.length_replicate]
        refine To.ite (fun c => ?_) (fun c => ?_) <;> simp (disch := omega) only [X.den, X.dens, X.denss, D.int_i, D.boo_b, D.str_s, D.rows_l, List.getD_cons_zero, List.getD_cons_succ, List.cons_append, List.nil_append, List.append_nil, List.length_cons, List.length_nil, decide_eq_true_eq, decide_eq_false_iff_not, Bool.not_eq_true', Bool.not_eq_false', Bool.and_eq_true, Bool.and_eq_false_iff, Bool.true_eq_false, Bool.false_eq_true, Bool.not_true, Bool.not_false, eq_self, wr64] at c
        · refine To.viaK (by (try simp (disch := omega) only [X.den, X.dens, X.denss, D.int_i, D.boo_b, D.str_s, D.rows_l, List.getD_cons_zero, List.getD_cons_succ, List.cons_append, List.nil_append, List.append_nil, List.length_cons, List.length_nil, decide_eq_true_eq, decide_eq_false_iff_not, Bool.not_eq_true', Bool.not_eq_false', Bool.and_eq_true, Bool.and_eq_false_iff, Bool.true_eq_false, Bool.false_eq_true, Bool.not_true, Bool.not_false, eq_self, D.len_l, wr64, not_true_eq_false, not_false_eq_true]); exact srcN_to hs (by omega) (by omega)) ?_
          rintro _ ρ2 ⟨r, t4, rfl, p4, q4, h4⟩ eρ
          refine ⟨rfl, ?_⟩
          simp only [List.cons_append, List.nil_append] at eρ
          subst eρ
          refine To.need (by simp only [X.den, X.dens, X.denss, D.int_i, D.boo_b, D.str_s, D.rows_l, List.getD_cons_zero, List.getD_cons_succ, List.cons_append, List.nil_append, List.append_nil, List.length_cons, List.length_nil, decide_eq_true_eq, decide_eq_false_iff_not, Bool.not_eq_true', Bool.not_eq_false', Bool.and_eq_true, Bool.and_eq_false_iff, Bool.true_eq_false, Bool.false_eq_true, Bool.not_true, Bool.not_false, eq_self]; omega) ?_
          refine To.need (by simp only [X.den, X.dens, X.denss, D.int_i, D.boo_b, D.str_s, D.rows_l, List.getD_cons_zero, List.getD_cons_succ, List.cons_append, List.nil_append, List.append_nil, List.length_cons, List.length_nil, decide_eq_true_eq, decide_eq_false_iff_not, Bool.not_eq_true', Bool.not_eq_false', Bool.and_eq_true, Bool.and_eq_false_iff, Bool.true_eq_false, Bool.false_eq_true, Bool.not_true, Bool.not_false, eq_self, D.len_l]; omega) ?_
          refine To.ret (.inl ⟨rfl, m - 1, by omega, s ++ [[.i (-9), .i 20, .i 4]], t4, j + 1, ?_, h4, by omega, ?_⟩)
          · simp (disch := omega) only [X.den, X.dens, X.denss, D.int_i, D.boo_b, D.str_s, D.rows_l, List.getD_cons_zero, List.getD_cons_succ, List.cons_append, List.nil_append, List.append_nil, List.length_cons, List.length_nil, X.denss, wr64, four_pick p4 q4, nat_succ]
          · rw [hr, List.replicate_succ']
        · exact To.ret (.inr ⟨rfl, s, at_, j, by simp only [X.den, X.dens, X.denss, D.int_i, D.boo_b, D.str_s, D.rows_l, List.getD_cons_zero, List.getD_cons_succ, List.cons_append, List.nil_append, List.append_nil, List.length_cons, List.length_nil], by omega, hr⟩)
      rintro o ρ2 ⟨s, at_, j, rfl, hj, hr⟩ eρ
      simp only [List.cons_append, List.nil_append] at eρ
      subst eρ
      refine ⟨rfl, ?_⟩
      have sl : s.length = j := by rw [hr, List.length_replicate]
      have row : ∀ i : Int, 0 ≤ i → i < j → ce s 0 i = -9 ∧ ce s 1 i = 20 ∧ ce s 2 i = 4 := fun i i0 i1 => by
        have e : s.getD i.toNat [] = [.i (-9), .i 20, .i 4] := by
          have := at_mem (fs := s) i0 (by omega)
          rw [hr] at this ⊢
          exact List.eq_of_mem_replicate this
        simp only [ce, cell_of, e]
        exact ⟨rfl, rfl, rfl⟩
      have sv : vd s = 0 := vd_of (by omega) fun i i0 i1 => by
        have := row i i0 (by omega)
        simp only [okS, this]
        omega
      refine To.viaK (by (try simp (disch := omega) only [X.den, X.dens, X.denss, D.int_i, D.boo_b, D.str_s, D.rows_l, List.getD_cons_zero, List.getD_cons_succ, List.cons_append, List.nil_append, List.append_nil, List.length_cons, List.length_nil, decide_eq_true_eq, decide_eq_false_iff_not, Bool.not_eq_true', Bool.not_eq_false', Bool.and_eq_true, Bool.and_eq_false_iff, Bool.true_eq_false, Bool.false_eq_true, Bool.not_true, Bool.not_false, eq_self, D.len_l, wr64, not_true_eq_false, not_false_eq_true, et]); exact divide_gen (t := t) sv (by omega) (by omega)) ?_
      rintro _ ρ2 ⟨z, rfl, z1, zl, zr, zs, zL⟩ eρ
      refine ⟨rfl, ?_⟩
      simp only [List.cons_append, List.nil_append] at eρ
      subst eρ
      refine To.joinK (fun o => o = [.b false]) ?_ ?_
      · refine To.yes rfl (To.ret ⟨rfl, ?_⟩)
        simp (disch := omega) only [X.den, X.dens, X.denss, D.int_i, D.boo_b, D.str_s, D.rows_l, List.getD_cons_zero, List.getD_cons_succ, List.cons_append, List.nil_append, List.append_nil, List.length_cons, List.length_nil, D.len_l, wr64]
        rw [decide_eq_true (by omega)]
        rfl
      rintro o ρ2 rfl eρ
      simp only [List.cons_append, List.nil_append] at eρ
      subst eρ
      refine To.no rfl ?_
      have last : ∀ i : Int, 0 ≤ i → i < j → ce z 0 i - ce z 0 (j - 1) ≤ 1 ∧ ce z 0 (j - 1) ≤ ce z 0 i := fun i i0 i1 => by
        by_cases q : i = j - 1
        · subst q; omega
        · have ri := row i i0 i1
          have rj := row (j - 1) (by omega) (by omega)
          have zi := zr i i0 (by omega)
          have zj := zr (j - 1) (by omega) (by omega)
          have a1 := zL i (j - 1) i0 (by omega) (by omega) (by omega) q
          have a2 := zL (j - 1) i (by omega) (by omega) i0 (by omega) (Ne.symm q)
          simp only [ri, rj] at a1 a2 zi zj
          omega
      refine To.loopK (fun m o => ∃ i : Int, o = [.i i] ∧ 0 ≤ i ∧ i + m = j) (fun o => o = [.i 1]) j (by omega) ?_ ?_ ?_
      · exact ⟨0, by simp only [X.den, X.dens, X.denss, D.int_i, D.boo_b, D.str_s, D.rows_l, List.getD_cons_zero, List.getD_cons_succ, List.cons_append, List.nil_append, List.append_nil, List.length_cons, List.length_nil], by omega, by omega⟩
      · rintro m o ρ2 ⟨i, rfl, i0, i1⟩ eρ
        simp only [List.cons_append, List.nil_append] at eρ
        subst eρ
        refine To.ite (fun c => ?_) (fun c => ?_) <;> simp (disch := omega) only [X.den, X.dens, X.denss, D.int_i, D.boo_b, D.str_s, D.rows_l, List.getD_cons_zero, List.getD_cons_succ, List.cons_append, List.nil_append, List.append_nil, List.length_cons, List.length_nil, decide_eq_true_eq, decide_eq_false_iff_not, Bool.not_eq_true', Bool.not_eq_false', Bool.and_eq_true, Bool.and_eq_false_iff, Bool.true_eq_false, Bool.false_eq_true, Bool.not_true, Bool.not_false, eq_self, D.len_l, wr64] at c
        · have li := last i i0 (by omega)
          have zi := zr i i0 (by omega)
          have zj := zr (j - 1) (by omega) (by omega)
          have ri := row i i0 (by omega)
          have rj := row (j - 1) (by omega) (by omega)
          simp only [ri, rj] at zi zj
          have ej : 1 + k - 1 = (j : Int) - 1 := by omega
          refine To.need (by simp (disch := omega) only [X.den, X.dens, X.denss, D.int_i, D.boo_b, D.str_s, D.rows_l, List.getD_cons_zero, List.getD_cons_succ, List.cons_append, List.nil_append, List.append_nil, List.length_cons, List.length_nil, decide_eq_true_eq, decide_eq_false_iff_not, Bool.not_eq_true', Bool.not_eq_false', Bool.and_eq_true, Bool.and_eq_false_iff, Bool.true_eq_false, Bool.false_eq_true, Bool.not_true, Bool.not_false, eq_self, D.len_l, wr64]; omega) ?_
          refine To.joinK (fun o => o = [.b false]) ?_ ?_
          · refine To.need (by simp (disch := omega) only [X.den, X.dens, X.denss, D.int_i, D.boo_b, D.str_s, D.rows_l, List.getD_cons_zero, List.getD_cons_succ, List.cons_append, List.nil_append, List.append_nil, List.length_cons, List.length_nil, decide_eq_true_eq, decide_eq_false_iff_not, Bool.not_eq_true', Bool.not_eq_false', Bool.and_eq_true, Bool.and_eq_false_iff, Bool.true_eq_false, Bool.false_eq_true, Bool.not_true, Bool.not_false, eq_self, D.len_l, wr64]; omega) ?_
            refine To.no (by simp (disch := omega) only [X.den, X.dens, X.denss, D.int_i, D.boo_b, D.str_s, D.rows_l, List.getD_cons_zero, List.getD_cons_succ, List.cons_append, List.nil_append, List.append_nil, List.length_cons, List.length_nil, decide_eq_true_eq, decide_eq_false_iff_not, Bool.not_eq_true', Bool.not_eq_false', Bool.and_eq_true, Bool.and_eq_false_iff, Bool.true_eq_false, Bool.false_eq_true, Bool.not_true, Bool.not_false, eq_self, D.len_l, wr64, ej, ce_def]; omega) (To.ret ⟨rfl, ?_⟩)
            simp (disch := omega) only [X.den, X.dens, X.denss, D.int_i, D.boo_b, D.str_s, D.rows_l, List.getD_cons_zero, List.getD_cons_succ, List.cons_append, List.nil_append, List.append_nil, List.length_cons, List.length_nil, wr64, ej, ce_def]
            rw [decide_eq_false (by omega)]
          rintro o ρ2 rfl eρ
          simp only [List.cons_append, List.nil_append] at eρ
          subst eρ
          refine To.no rfl (To.ret (.inl ⟨rfl, m - 1, by omega, ?_⟩))
          simp (disch := omega) only [X.den, X.dens, X.denss, D.int_i, D.boo_b, D.str_s, D.rows_l, List.getD_cons_zero, List.getD_cons_succ, List.cons_append, List.nil_append, List.append_nil, List.length_cons, List.length_nil, wr64]
          exact ⟨_, rfl, by omega, by omega⟩
        · exact To.ret (.inr ⟨rfl, by simp only [X.den, X.dens, X.denss, D.int_i, D.boo_b, D.str_s, D.rows_l, List.getD_cons_zero, List.getD_cons_succ, List.cons_append, List.nil_append, List.append_nil, List.length_cons, List.length_nil]⟩)
      rintro o ρ2 rfl eρ
      simp only [List.cons_append, List.nil_append] at eρ
      subst eρ
      refine ⟨rfl, To.no rfl ?_⟩
      have gs : goal s t = max (sumf (ce s 0) s.length) (min t (sumf (ce s 1) s.length)) := by simp only [goal, reS, if_pos sv]
      have le01 : sumf (ce s 0) s.length ≤ sumf (ce s 1) s.length := sumf_le fun i i0 i1 => by have := row i i0 (by omega); omega
      have fst : t - goal s t = 0 ∨ ce z 0 0 = -9 ∨ ce z 0 0 = 20 := by
        have r0 := row 0 (by omega) (by omega)
        rcases Int.lt_trichotomy t (goal s t) with q | q | q
        · have := sumf_eq (fun i a b => (zr i a b).1) (by omega) 0 (by omega) (by omega)
          omega
        · omega
        · have := sumf_eq (fun i a b => (zr i a b).2) (by omega) 0 (by omega) (by omega)
          omega
      refine To.joinK (fun o => o = [.b true]) ?_ ?_
      · refine To.ite (fun c => ?_) (fun c => ?_) <;> simp only [X.den, X.dens, X.denss, D.int_i, D.boo_b, D.str_s, D.rows_l, List.getD_cons_zero, List.getD_cons_succ, List.cons_append, List.nil_append, List.append_nil, List.length_cons, List.length_nil, decide_eq_true_eq, decide_eq_false_iff_not, Bool.not_eq_true', Bool.not_eq_false', Bool.and_eq_true, Bool.and_eq_false_iff, Bool.true_eq_false, Bool.false_eq_true, Bool.not_true, Bool.not_false, eq_self] at c
        · refine To.callK (l := [.b true]) rfl rfl _ (by simp only [List.cons_append, List.nil_append]; first | done | rfl) ?_
          exact To.ret ⟨rfl, by simp only [X.den, X.dens, X.denss, D.int_i, D.boo_b, D.str_s, D.rows_l, List.getD_cons_zero, List.getD_cons_succ, List.cons_append, List.nil_append, List.append_nil, List.length_cons, List.length_nil]⟩
        · refine To.need (by simp only [X.den, X.dens, X.denss, D.int_i, D.boo_b, D.str_s, D.rows_l, List.getD_cons_zero, List.getD_cons_succ, List.cons_append, List.nil_append, List.append_nil, List.length_cons, List.length_nil, decide_eq_true_eq, decide_eq_false_iff_not, Bool.not_eq_true', Bool.not_eq_false', Bool.and_eq_true, Bool.and_eq_false_iff, Bool.true_eq_false, Bool.false_eq_true, Bool.not_true, Bool.not_false, eq_self, D.len_l]; omega) ?_
          refine To.ite (fun c => ?_) (fun c => ?_) <;> simp only [X.den, X.dens, X.denss, D.int_i, D.boo_b, D.str_s, D.rows_l, List.getD_cons_zero, List.getD_cons_succ, List.cons_append, List.nil_append, List.append_nil, List.length_cons, List.length_nil, decide_eq_true_eq, decide_eq_false_iff_not, Bool.not_eq_true', Bool.not_eq_false', Bool.and_eq_true, Bool.and_eq_false_iff, Bool.true_eq_false, Bool.false_eq_true, Bool.not_true, Bool.not_false, eq_self, ce_def] at c
          · refine To.callK (l := [.b true]) rfl rfl _ (by simp only [List.cons_append, List.nil_append]; first | done | rfl) ?_
            exact To.ret ⟨rfl, by simp only [X.den, X.dens, X.denss, D.int_i, D.boo_b, D.str_s, D.rows_l, List.getD_cons_zero, List.getD_cons_succ, List.cons_append, List.nil_append, List.append_nil, List.length_cons, List.length_nil]⟩
          · refine To.ite (fun c => ?_) (fun c => ?_) <;> simp only [X.den, X.dens, X.denss, D.int_i, D.boo_b, D.str_s, D.rows_l, List.getD_cons_zero, List.getD_cons_succ, List.cons_append, List.nil_append, List.append_nil, List.length_cons, List.length_nil, decide_eq_true_eq, decide_eq_false_iff_not, Bool.not_eq_true', Bool.not_eq_false', Bool.and_eq_true, Bool.and_eq_false_iff, Bool.true_eq_false, Bool.false_eq_true, Bool.not_true, Bool.not_false, eq_self, ce_def] at c
            · refine To.callK (l := [.b true]) rfl rfl _ (by simp only [List.cons_append, List.nil_append]; first | done | rfl) ?_
              exact To.ret ⟨rfl, by simp only [X.den, X.dens, X.denss, D.int_i, D.boo_b, D.str_s, D.rows_l, List.getD_cons_zero, List.getD_cons_succ, List.cons_append, List.nil_append, List.append_nil, List.length_cons, List.length_nil]⟩
            · exfalso; omega
      rintro o ρ2 rfl eρ
      simp only [List.cons_append, List.nil_append] at eρ
      subst eρ
      exact To.ret (by simp only [X.den, X.dens, X.denss, D.int_i, D.boo_b, D.str_s, D.rows_l, List.getD_cons_zero, List.getD_cons_succ, List.cons_append, List.nil_append, List.append_nil, List.length_cons, List.length_nil])
    · cases h
theorem SharePrice_walk {w : World} (v : Value) (zs : List Int) (h : IntsIn w w.heap.size v .i64 zs) (hz : ∀ z ∈ zs, (Lit.int .i64 z).wf = true) : Calls Try.prog 6 #[v] w fun e w' => e = .returned (.bool true) ∧ Below w.heap.size w w' :=
  con_law SharePrice_ok rfl (fun G hG => args_ints h hG (by trivial)) (by simp [shPri_K]) (ds := [numD zs]) rfl
end Go.Proofs.Ytlhnhidoljfnnaa
