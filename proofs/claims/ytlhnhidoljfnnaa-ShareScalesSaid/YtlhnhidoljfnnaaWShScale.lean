/- ShareScales. -/
import Derived.Test.YtlhnhidoljfnnaaShrS
set_option linter.unusedVariables false
set_option linter.unusedSimpArgs false
namespace Go.Proofs.Ytlhnhidoljfnnaa
open Go.RowKit Fx Sh
def shSca_H : List Hint := [
  ⟨2147479793, 4, [.t [.int .i64, .int .i64, .int .i64] 5], ⟨[.ptr 0 0, .und, .und, .und, .con (.slice none 0 0), .var 4, .int .i64 (.V 7), .und, .und, .und, .und, .und, .und, .und, .und, .und, .und, .und, .und, .und, .und, .und, .und, .und, .und, .und, .und, .und, .und, .und, .und], [.fix [.var 5, .int .i64 (.V 6)] true, .rows [.int .i64, .int .i64, .int .i64] (.V 4) 4], 8, 6, [none, none, none, none, none, none, none, none], [], [⟨0, [.int .i64], (.V 0)⟩, ⟨1, [.int .i64], (.take (.V 0) (.mn (.len (.V 0)) (.N 600)))⟩, ⟨2, [.int .i64], (.V 2)⟩, ⟨5, [.int .i64], (.V 5)⟩]⟩⟩,
  ⟨144115187555762172, 7, [], ⟨[.und, .und, .bool (.B false), .ptr 0 0, .var 4, .und, .und, .und, .und, .und, .und, .und, .und, .und, .und, .und, .und, .und, .und, .und, .und, .und, .und, .und, .und, .und, .und, .und, .und, .int .i64 (.len (.V 4)), .int .i64 (.V 8), .und, .und, .und, .und, .und, .und, .und, .und, .und, .und, .und, .und, .und, .und, .und, .und, .und, .und, .und, .und, .und, .und, .und, .und, .und, .und, .und, .und, .und, .und, .und, .und, .und, .und, .und, .und, .und, .und, .und, .und, .und, .und, .und, .und, .und, .und, .und, .und, .und, .und, .und, .und, .und, .und, .und, .und, .und, .und, .und, .und, .und, .und, .und, .und, .und, .und, .und, .und, .und, .und, .und, .und, .und, .und, .und, .und, .und, .und, .und, .und, .und, .und, .und, .und, .und, .und, .und, .und, .und, .und, .und, .und, .und, .und, .und, .und, .und, .und, .und, .und, .und, .und, .und, .und, .und, .und, .und, .und, .und, .und, .und, .und, .und, .und, .und, .und, .und, .und, .und, .und, .und, .und, .und, .und, .und, .und, .und, .und, .und, .und, .und, .und, .und, .und, .und, .und, .und, .und, .und, .und, .und, .und, .und, .und, .und, .und], [.fix [.var 5, .int .i64 (.V 6)] true, .rows [.int .i64, .int .i64, .int .i64] (.V 7) 4], 9, 6, [none, none, none, none, none, none, none, none, none], [], [⟨0, [.int .i64], (.V 0)⟩, ⟨1, [.int .i64], (.take (.V 0) (.mn (.len (.V 0)) (.N 600)))⟩, ⟨2, [.int .i64], (.V 2)⟩, ⟨5, [.int .i64], (.V 5)⟩]⟩⟩,
  ⟨142989288185790428, 11, [], ⟨[.und, .und, .bool (.B false), .ptr 0 0, .var 4, .und, .var 6, .int .i64 (.wr .i64 (.add (.N 1) (.V 8))), .und, .und, .und, .und, .und, .und, .und, .und, .und, .und, .und, .und, .und, .und, .und, .und, .und, .und, .und, .und, .und, .und, .und, .und, .und, .und, .und, .und, .und, .und, .und, .und, .und, .und, .und, .und, .und, .und, .und, .und, .und, .und, .int .i64 (.len (.V 7)), .int .i64 (.V 12), .und, .und, .und, .und, .und, .und, .und, .und, .und, .und, .und, .und, .und, .und, .und, .und, .und, .und, .und, .und, .und, .und, .und, .und, .und, .und, .und, .und, .und, .und, .und, .und, .und, .und, .und, .und, .und, .und, .und, .und, .und, .und, .und, .und, .und, .und, .und, .und, .und, .und, .und, .und, .und, .und, .und, .und, .und, .und, .und, .und, .und, .und, .und, .und, .und, .und, .und, .und, .und, .und, .und, .und, .und, .und, .und, .und, .und, .und, .und, .und, .und, .und, .und, .und, .und, .und, .und, .und, .und, .und, .und, .und, .und, .und, .und, .und, .und, .und, .und, .und, .und, .und, .und, .und, .und, .und, .und, .und, .und, .und, .und, .und, .und, .und, .und, .und, .und, .und, .und, .und, .und, .und, .und, .und, .und], [.fix [.var 7, .int .i64 (.V 10)] true, .rows [.int .i64, .int .i64, .int .i64] (.V 7) 4, .rows [.int .i64, .int .i64, .int .i64] (.V 11) 6], 13, 8, [none, none, none, none, none, none, none, none, none, none, none, none, none], [], [⟨0, [.int .i64], (.V 0)⟩, ⟨1, [.int .i64], (.take (.V 0) (.mn (.len (.V 0)) (.N 600)))⟩, ⟨2, [.int .i64], (.V 2)⟩, ⟨5, [.int .i64], (.V 5)⟩, ⟨7, [.int .i64], (.V 9)⟩]⟩⟩]
def shSca_K : Con := ⟨7, [.val false [.sl [.int .i64]]], [.val false [.bool]], []⟩
def shSca_T : T (List X) :=
  (.need (.not (.lt (.len (.V 0)) (.mn (.len (.V 0)) (.N 600))))
  (.call 26 [(.take (.V 0) (.mn (.len (.V 0)) (.N 600))), (.N 0), (.N 5)] 3
   (.loop [(.rows []), (.V 2), (.V 3), (.V 1)]
    (.ite (.lt (.N 0) (.V 7))
     (.call 26 [(.V 5), (.V 6), (.N 15)] 3
      (.call 26 [(.V 9), (.V 10), (.N 12)] 3
       (.call 26 [(.V 12), (.V 13), (.N 6)] 3
        (.need (.and (.not (.lt (.V 14) (.N 0))) (.lt (.V 14) (.N 6)))
         (.need (.not (.lt (.N 5864062014805) (.add (.len (.V 4)) (.N 1))))
          (.ret (true, [(.app (.V 4) (.rows [[(.wr .i64 (.add (.N (-9)) (.V 8))), (.wr .i64 (.add (.wr .i64 (.add (.N (-9)) (.V 8))) (.V 11))), (.at (.rows [[(.N 1)], [(.N 1)], [(.N 2)], [(.N 3)], [(.N 7)], [(.N 100)]]) (.V 14) 0)]])), (.V 15), (.V 16), (.wr .i64 (.sub (.V 7) (.N 1)))])))))))
     (.ret (false, [(.V 4), (.V 5), (.V 6)]))) 3
    (.loop [(.V 4), (.N 0)]
     (.ite (.lt (.V 8) (.len (.V 4)))
      (.need (.and (.not (.lt (.V 8) (.N 0))) (.lt (.V 8) (.len (.V 7))))
       (.ret (true, [(.put (.V 7) (.V 8) 2 (.add (.N 1) (.rem (.at (.V 7) (.V 8) 2) (.N 20)))), (.wr .i64 (.add (.V 8) (.N 1)))])))
      (.ret (false, [(.V 7)]))) 1
     (.need (.not (.lt (.N 5864062014805) (.len (.V 7))))
      (.call 26 [(.V 5), (.V 6), (.N 4)] 3
       (.loop [(.V 7), (.N 0)]
        (.ite (.lt (.V 12) (.len (.V 7)))
         (.need (.and (.not (.lt (.V 12) (.N 0))) (.lt (.V 12) (.len (.V 11))))
          (.ret (true, [(.put (.V 11) (.V 12) 2 (.wr .i64 (.mul (.at (.V 11) (.V 12) 2) (.wr .i64 (.add (.N 1) (.V 8)))))), (.wr .i64 (.add (.V 12) (.N 1)))])))
         (.ret (false, [(.V 11)]))) 1
        (.call 26 [(.V 9), (.V 10), (.N 51)] 3
         (.call 23 [(.V 7), (.wr .i64 (.add (.N (-20)) (.V 12)))] 3
          (.call 23 [(.V 11), (.wr .i64 (.add (.N (-20)) (.V 12)))] 3
           (.call 26 [(.V 13), (.V 14), (.N 11)] 3
            (.need (.not (.lt (.N 5864062014805) (.add (.len (.V 7)) (.N 1))))
             (.call 23 [(.app (.V 7) (.rows [[(.wr .i64 (.add (.N (-5)) (.V 21))), (.wr .i64 (.add (.N (-5)) (.V 21))), (.N 3)]])), (.wr .i64 (.add (.wr .i64 (.add (.N (-20)) (.V 12))) (.wr .i64 (.add (.N (-5)) (.V 21)))))] 3
              (.sub (.ite (.eq (.V 17) (.N 0))
                (.ite (.eq (.V 20) (.N 0))
                 (.ite (.eq (.V 26) (.N 0))
                  (.ite (.eq (.len (.V 24)) (.wr .i64 (.add (.len (.V 7)) (.N 1))))
                   (.call 25 [(.V 15), (.V 18)] 1
                    (.ite (.V 27)
                     (.ite (.eq (.V 16) (.V 19))
                      (.ite (.eq (.V 25) (.V 16))
                       (.need (.lt (.len (.V 7)) (.len (.V 24)))
                        (.ite (.eq (.at (.V 24) (.len (.V 7)) 0) (.wr .i64 (.add (.N (-5)) (.V 21))))
                         (.need (.not (.lt (.len (.V 24)) (.len (.V 7))))
                          (.call 25 [(.take (.V 24) (.len (.V 7))), (.V 15)] 1
                           (.ret [(.not (.V 28))])))
                         (.ret [(.B true)])))
                       (.ret [(.B true)]))
                      (.ret [(.B true)]))
                     (.ret [(.B true)])))
                   (.ret [(.B true)]))
                  (.ret [(.B true)]))
                 (.ret [(.B true)]))
                (.ret [(.B true)])) 1
               (.ite (.V 27)
                (.ret [(.B false)])
                (.call 27 [(.V 7), (.V 15)] 2
                 (.call 27 [(.V 11), (.V 15)] 2
                  (.sub (.ite (.eq (.V 29) (.N 0))
                    (.ite (.eq (.V 31) (.N 0))
                     (.ite (.eq (.V 30) (.wr .i64 (.mul (.wr .i64 (.add (.N 1) (.V 8))) (.V 28))))
                      (.call 14 [] 1
                       (.ret [(.V 32)]))
                      (.ret [(.B false)]))
                     (.ret [(.B false)]))
                    (.ret [(.B false)])) 1
                   (.ret [(.V 32)])))))))))))))))))))
set_option maxRecDepth 100000 in
theorem shSca_t : runS Try.prog [srcN_K.to [], shReach_K.to [], shDivide_K.to [], shSum_K.to [], rInts_K.to [], sane13_K.to []] [(7, shSca_H), (16, shSca_H)] shSca_K = shSca_T := by kernel_rfl
def Three (y : List (List D)) : Prop := ∀ r ∈ y, ∃ a b c : Int, r = [.i a, .i b, .i c]
def putc (y : List (List D)) (k v : Int) : List (List D) := y.set k.toNat ((y.getD k.toNat []).set 2 (.i v))
theorem putc_def {y : List (List D)} {k v : Int} : (D.l y).put k 2 (.i v) = .l (putc y k v) := rfl
theorem putc_len {y : List (List D)} {k v : Int} : (putc y k v).length = y.length := by simp only [putc, List.length_set]
theorem putc_three {y : List (List D)} {k v : Int} (h : Three y) : Three (putc y k v) := by
  intro r hr
  by_cases hk : k.toNat < y.length
  · rcases List.mem_or_eq_of_mem_set hr with h1 | h1
    · exact h r h1
    · have hm : y.getD k.toNat [] ∈ y := by
        rw [List.getD_eq_getElem?_getD, List.getElem?_eq_getElem hk, Option.getD_some]
        exact List.getElem_mem _
      obtain ⟨a, b, c, e⟩ := h _ hm
      rw [e] at h1
      exact ⟨a, b, v, h1⟩
  · rw [putc, List.set_eq_of_length_le (by omega)] at hr
    exact h r hr
theorem putc_ce {y : List (List D)} {k v i : Int} (h : Three y) (k0 : 0 ≤ k) (k1 : k < y.length) (i0 : 0 ≤ i) : ce (putc y k v) 0 i = ce y 0 i ∧ ce (putc y k v) 1 i = ce y 1 i ∧ ce (putc y k v) 2 i = if i = k then v else ce y 2 i := by
  have hk : k.toNat < y.length := by omega
  have hm : y.getD k.toNat [] ∈ y := by
    rw [List.getD_eq_getElem?_getD, List.getElem?_eq_getElem hk, Option.getD_some]
    exact List.getElem_mem _
  obtain ⟨a, b, c, e⟩ := h _ hm
  simp only [ce, cell_of, putc]
  split
  · rename_i q
    subst q
    rw [List.getD_eq_getElem?_getD (l := y.set _ _), List.getElem?_set_self hk, Option.getD_some, e]
    exact ⟨rfl, rfl, rfl⟩
  · rw [List.getD_eq_getElem?_getD (l := y.set _ _), List.getElem?_set_ne (by omega), ← List.getD_eq_getElem?_getD]
    exact ⟨rfl, rfl, rfl⟩
theorem lex_congr {n : Nat} {lo hi c x lo' hi' c' x' : Int → Int} (h : ∀ i : Int, 0 ≤ i → i < n → lo i = lo' i ∧ hi i = hi' i ∧ c i = c' i ∧ x i = x' i) (L : Lex n lo hi c x) : Lex n lo' hi' c' x' := fun i j a b d e f g k => by
  obtain ⟨h1, h2, h3, h4⟩ := h i a b
  obtain ⟨k1, k2, k3, k4⟩ := h j d e
  rw [← h3, ← h4, ← k3, ← k4]
  exact L i j a b d e f (by rw [h1, h4]; exact g) (by rw [k2, k4]; exact k)
theorem sumf_mul {f g : Int → Int} {k : Int} {n : Nat} (h : ∀ i : Int, 0 ≤ i → i < n → g i = k * f i) : sumf g n = k * sumf f n := by
  induction n with
  | zero => simp [sumf]
  | succ n ih =>
    have a := ih fun i h0 h1 => h i h0 (by omega)
    have b := h n (by omega) (by omega)
    simp only [sumf]
    grind
theorem ce_app {y : List (List D)} {r : List D} {c : Nat} {i : Int} (i0 : 0 ≤ i) (i1 : i < y.length) : ce (y ++ [r]) c i = ce y c i := by
  simp only [ce, cell_of]
  rw [List.getD_eq_getElem?_getD (l := y ++ [r]), List.getElem?_append_left (by omega), ← List.getD_eq_getElem?_getD]
theorem ce_last {y : List (List D)} {r : List D} {c : Nat} {i : Int} (i1 : i = y.length) : ce (y ++ [r]) c i = (r.getD c (.i 0)).int := by
  subst i1
  simp only [ce, cell_of]
  rw [List.getD_eq_getElem?_getD (l := y ++ [r]), List.getElem?_append_right (by omega)]
  simp
theorem ce_take {y : List (List D)} {n c : Nat} {i : Int} (i0 : 0 ≤ i) (i1 : i < n) : ce (y.take n) c i = ce y c i := by
  simp only [ce, cell_of]
  rw [List.getD_eq_getElem?_getD (l := y.take n), List.getElem?_take_of_lt (by omega), ← List.getD_eq_getElem?_getD]
theorem ShareScales_ok : ConOk Try.prog shSca_K fun ds => match ds with | [.l _] => some [.b true] | _ => none :=
  con_of follows (M := l13M) (one_con (srcN_ok.to _) (one_con (shReach_ok.to _) (one_con (shDivide_ok.to _) (one_con (shSum_ok.to _) (one_con (rInts_ok.to _) (one_con (sane13_ok.to _) no_cons)))))) shSca_t fun ds outs hl h => by
    split at h
    · rename_i rows
      injection h with h
      subst h
      refine ⟨fun i l h k => by simp [shSca_K] at k, 30, ?_⟩
      unfold shSca_T
      refine To.need (by simp only [X.den, X.dens, X.denss, D.int_i, D.boo_b, D.str_s, D.rows_l, List.getD_cons_zero, List.getD_cons_succ, List.cons_append, List.nil_append, List.append_nil, List.length_cons, List.length_nil, decide_eq_true_eq, decide_eq_false_iff_not, Bool.not_eq_true', Bool.not_eq_false', Bool.and_eq_true, Bool.and_eq_false_iff, Bool.true_eq_false, Bool.false_eq_true, Bool.not_true, Bool.not_false, eq_self, D.len_l]; omega) ?_
      refine To.viaK (by (try simp (disch := omega) only [X.den, X.dens, X.denss, D.int_i, D.boo_b, D.str_s, D.rows_l, List.getD_cons_zero, List.getD_cons_succ, List.cons_append, List.nil_append, List.append_nil, List.length_cons, List.length_nil, decide_eq_true_eq, decide_eq_false_iff_not, Bool.not_eq_true', Bool.not_eq_false', Bool.and_eq_true, Bool.and_eq_false_iff, Bool.true_eq_false, Bool.false_eq_true, Bool.not_true, Bool.not_false, eq_self, D.len_l, wr64, not_true_eq_false, not_false_eq_true]); exact srcN_to src_take13 (by omega) (by omega)) ?_
      rintro _ ρ2 ⟨n0, t1, rfl, p1, q1, h1⟩ eρ
      refine ⟨rfl, ?_⟩
      simp only [List.cons_append, List.nil_append] at eρ
      subst eρ
      generalize List.take (min (min (rows.length : Int) 9223372036854775807) 600).toNat rows = src at *
      refine To.loopK (fun m o => ∃ l at_ k, o = [.l l, .l src, .i at_, .i k] ∧ SrcOk src at_ ∧ k = m ∧ k + l.length ≤ 4 ∧ ∀ r ∈ l, ShRow r) (fun o => ∃ l at_, o = [.l l, .l src, .i at_] ∧ SrcOk src at_ ∧ (l.length : Int) ≤ 4 ∧ ∀ r ∈ l, ShRow r) n0.toNat (by omega) ?_ ?_ ?_
      · exact ⟨[], t1, n0, by simp only [X.den, X.dens, X.denss, D.int_i, D.boo_b, D.str_s, D.rows_l, List.getD_cons_zero, List.getD_cons_succ, List.cons_append, List.nil_append, List.append_nil, List.length_cons, List.length_nil, X.denss], h1, by omega, by simp; omega, by simp⟩
      · rintro m o ρ2 ⟨l, a, k, rfl, hs, hk, hn, hf⟩ eρ
        simp only [List.cons_append, List.nil_append] at eρ
        subst eρ
        refine To.ite (fun c => ?_) (fun c => ?_) <;> simp only [X.den, X.dens, X.denss, D.int_i, D.boo_b, D.str_s, D.rows_l, List.getD_cons_zero, List.getD_cons_succ, List.cons_append, List.nil_append, List.append_nil, List.length_cons, List.length_nil, decide_eq_true_eq, decide_eq_false_iff_not, Bool.not_eq_true', Bool.not_eq_false', Bool.and_eq_true, Bool.and_eq_false_iff, Bool.true_eq_false, Bool.false_eq_true, Bool.not_true, Bool.not_false, eq_self] at c
        · refine To.viaK (by (try simp (disch := omega) only [X.den, X.dens, X.denss, D.int_i, D.boo_b, D.str_s, D.rows_l, List.getD_cons_zero, List.getD_cons_succ, List.cons_append, List.nil_append, List.append_nil, List.length_cons, List.length_nil, decide_eq_true_eq, decide_eq_false_iff_not, Bool.not_eq_true', Bool.not_eq_false', Bool.and_eq_true, Bool.and_eq_false_iff, Bool.true_eq_false, Bool.false_eq_true, Bool.not_true, Bool.not_false, eq_self, D.len_l, wr64, not_true_eq_false, not_false_eq_true]); exact srcN_to hs (by omega) (by omega)) ?_
          rintro _ ρ2 ⟨r1, t1, rfl, p1, q1, h1⟩ eρ
          refine ⟨rfl, ?_⟩
          simp only [List.cons_append, List.nil_append] at eρ
          subst eρ
          refine To.viaK (by (try simp (disch := omega) only [X.den, X.dens, X.denss, D.int_i, D.boo_b, D.str_s, D.rows_l, List.getD_cons_zero, List.getD_cons_succ, List.cons_append, List.nil_append, List.append_nil, List.length_cons, List.length_nil, decide_eq_true_eq, decide_eq_false_iff_not, Bool.not_eq_true', Bool.not_eq_false', Bool.and_eq_true, Bool.and_eq_false_iff, Bool.true_eq_false, Bool.false_eq_true, Bool.not_true, Bool.not_false, eq_self, D.len_l, wr64, not_true_eq_false, not_false_eq_true]); exact srcN_to h1 (by omega) (by omega)) ?_
          rintro _ ρ2 ⟨r2, t2, rfl, p2, q2, h2⟩ eρ
          refine ⟨rfl, ?_⟩
          simp only [List.cons_append, List.nil_append] at eρ
          subst eρ
          refine To.viaK (by (try simp (disch := omega) only [X.den, X.dens, X.denss, D.int_i, D.boo_b, D.str_s, D.rows_l, List.getD_cons_zero, List.getD_cons_succ, List.cons_append, List.nil_append, List.append_nil, List.length_cons, List.length_nil, decide_eq_true_eq, decide_eq_false_iff_not, Bool.not_eq_true', Bool.not_eq_false', Bool.and_eq_true, Bool.and_eq_false_iff, Bool.true_eq_false, Bool.false_eq_true, Bool.not_true, Bool.not_false, eq_self, D.len_l, wr64, not_true_eq_false, not_false_eq_true]); exact srcN_to h2 (by omega) (by omega)) ?_
          rintro _ ρ2 ⟨r3, t3, rfl, p3, q3, h3⟩ eρ
          refine ⟨rfl, ?_⟩
          simp only [List.cons_append, List.nil_append] at eρ
          subst eρ
          refine To.need (by simp only [X.den, X.dens, X.denss, D.int_i, D.boo_b, D.str_s, D.rows_l, List.getD_cons_zero, List.getD_cons_succ, List.cons_append, List.nil_append, List.append_nil, List.length_cons, List.length_nil, decide_eq_true_eq, decide_eq_false_iff_not, Bool.not_eq_true', Bool.not_eq_false', Bool.and_eq_true, Bool.and_eq_false_iff, Bool.true_eq_false, Bool.false_eq_true, Bool.not_true, Bool.not_false, eq_self]; omega) ?_
          refine To.need (by simp only [X.den, X.dens, X.denss, D.int_i, D.boo_b, D.str_s, D.rows_l, List.getD_cons_zero, List.getD_cons_succ, List.cons_append, List.nil_append, List.append_nil, List.length_cons, List.length_nil, decide_eq_true_eq, decide_eq_false_iff_not, Bool.not_eq_true', Bool.not_eq_false', Bool.and_eq_true, Bool.and_eq_false_iff, Bool.true_eq_false, Bool.false_eq_true, Bool.not_true, Bool.not_false, eq_self, D.len_l]; omega) ?_
          obtain ⟨z, ez, z0, z1⟩ := cost_pick p3 q3
          refine To.ret (.inl ⟨rfl, m - 1, by omega, ?_⟩)
          simp (disch := omega) only [X.den, X.dens, X.denss, D.int_i, D.boo_b, D.str_s, D.rows_l, List.getD_cons_zero, List.getD_cons_succ, List.cons_append, List.nil_append, List.append_nil, List.length_cons, List.length_nil, X.denss, wr64, ez]
          refine ⟨_, _, _, rfl, h3, by omega, by rw [List.length_append]; simp only [List.length_cons, List.length_nil]; omega, ?_⟩
          intro r hr
          rcases List.mem_append.1 hr with hr | hr
          · exact hf r hr
          · rw [List.mem_singleton] at hr
            exact ⟨_, _, _, hr, by omega, by omega, by omega⟩
        · exact To.ret (.inr ⟨rfl, l, a, by simp only [X.den, X.dens, X.denss, D.int_i, D.boo_b, D.str_s, D.rows_l, List.getD_cons_zero, List.getD_cons_succ, List.cons_append, List.nil_append, List.append_nil, List.length_cons, List.length_nil], hs, by omega, hf⟩)
      rintro o ρ2 ⟨l0, t2, rfl, h2, hn, hf⟩ eρ
      simp only [List.cons_append, List.nil_append] at eρ
      subst eρ
      refine ⟨rfl, ?_⟩
      have th0 : Three l0 := fun r hr => by obtain ⟨a, b, c, e, _⟩ := hf r hr; exact ⟨a, b, c, e⟩
      have ok0 : ∀ i : Int, 0 ≤ i → i < l0.length → okS l0 i ∧ -9 ≤ ce l0 0 i ∧ ce l0 1 i ≤ 16 := fun i a b => shRow_ok hf a b
      refine To.loopK (fun m o => ∃ (y : List (List D)) (k : Nat), o = [.l y, .i k] ∧ k + m = l0.length ∧ y.length = l0.length ∧ Three y ∧ (∀ i : Int, 0 ≤ i → i < l0.length → ce y 0 i = ce l0 0 i ∧ ce y 1 i = ce l0 1 i) ∧ (∀ i : Int, 0 ≤ i → i < k → 1 ≤ ce y 2 i ∧ ce y 2 i ≤ 20) ∧ (∀ i : Int, k ≤ i → i < l0.length → ce y 2 i = ce l0 2 i))
        (fun o => ∃ y : List (List D), o = [.l y] ∧ y.length = l0.length ∧ Three y ∧ (∀ i : Int, 0 ≤ i → i < l0.length → ce y 0 i = ce l0 0 i ∧ ce y 1 i = ce l0 1 i) ∧ (∀ i : Int, 0 ≤ i → i < l0.length → 1 ≤ ce y 2 i ∧ ce y 2 i ≤ 20)) l0.length (by omega) ?_ ?_ ?_
      · exact ⟨l0, 0, rfl, by omega, rfl, th0, fun i _ _ => ⟨rfl, rfl⟩, by intro i; omega, fun i _ _ => rfl⟩
      · rintro m o ρ2 ⟨y, k, rfl, hk, hy, h3, hi, hb, ha⟩ eρ
        simp only [List.cons_append, List.nil_append] at eρ
        subst eρ
        refine To.ite (fun c => ?_) (fun c => ?_) <;> simp only [X.den, X.dens, X.denss, D.int_i, D.boo_b, D.str_s, D.rows_l, List.getD_cons_zero, List.getD_cons_succ, List.cons_append, List.nil_append, List.append_nil, List.length_cons, List.length_nil, decide_eq_true_eq, decide_eq_false_iff_not, Bool.not_eq_true', Bool.not_eq_false', Bool.and_eq_true, Bool.and_eq_false_iff, Bool.true_eq_false, Bool.false_eq_true, Bool.not_true, Bool.not_false, eq_self, D.len_l] at c
        · refine To.need (by simp only [X.den, X.dens, X.denss, D.int_i, D.boo_b, D.str_s, D.rows_l, List.getD_cons_zero, List.getD_cons_succ, List.cons_append, List.nil_append, List.append_nil, List.length_cons, List.length_nil, decide_eq_true_eq, decide_eq_false_iff_not, Bool.not_eq_true', Bool.not_eq_false', Bool.and_eq_true, Bool.and_eq_false_iff, Bool.true_eq_false, Bool.false_eq_true, Bool.not_true, Bool.not_false, eq_self, D.len_l]; omega) ?_
          have o1 := ok0 k (by omega) (by omega)
          have a1 := ha k (by omega) (by omega)
          simp only [okS] at o1
          have tm : (ce y 2 k).tmod 20 = ce y 2 k % 20 := Int.tmod_eq_emod_of_nonneg (by omega)
          have pc : ∀ i : Int, 0 ≤ i → _ := fun i i0 => putc_ce (k := k) (v := 1 + ce y 2 k % 20) (i := i) h3 (by omega) (by omega) i0
          refine To.ret (.inl ⟨rfl, m - 1, by omega, putc y k (1 + ce y 2 k % 20), k + 1, ?_, by omega, by rw [putc_len]; exact hy, putc_three h3, fun i i0 i1 => ?_, fun i i0 i1 => ?_, fun i i0 i1 => ?_⟩)
          · simp (disch := omega) only [X.den, X.dens, X.denss, D.int_i, D.boo_b, D.str_s, D.rows_l, List.getD_cons_zero, List.getD_cons_succ, List.cons_append, List.nil_append, List.append_nil, List.length_cons, List.length_nil, wr64, ce_def, tm, putc_def, nat_succ]
          · rw [(pc i i0).1, (pc i i0).2.1]; exact hi i i0 i1
          · rw [(pc i i0).2.2]
            split
            · omega
            · exact hb i i0 (by omega)
          · rw [(pc i (by omega)).2.2, if_neg (by omega)]; exact ha i (by omega) i1
        · obtain rfl : k = l0.length := by omega
          exact To.ret (.inr ⟨rfl, y, by simp only [X.den, X.dens, X.denss, D.int_i, D.boo_b, D.str_s, D.rows_l, List.getD_cons_zero, List.getD_cons_succ, List.cons_append, List.nil_append, List.append_nil, List.length_cons, List.length_nil], hy, h3, hi, hb⟩)
      rintro o ρ2 ⟨l, rfl, ll, th, lc, lk⟩ eρ
      simp only [List.cons_append, List.nil_append] at eρ
      subst eρ
      refine ⟨rfl, ?_⟩
      refine To.need (by simp only [X.den, X.dens, X.denss, D.int_i, D.boo_b, D.str_s, D.rows_l, List.getD_cons_zero, List.getD_cons_succ, List.cons_append, List.nil_append, List.append_nil, List.length_cons, List.length_nil, decide_eq_true_eq, decide_eq_false_iff_not, Bool.not_eq_true', Bool.not_eq_false', Bool.and_eq_true, Bool.and_eq_false_iff, Bool.true_eq_false, Bool.false_eq_true, Bool.not_true, Bool.not_false, eq_self, D.len_l]; omega) ?_
      refine To.viaK (by (try simp (disch := omega) only [X.den, X.dens, X.denss, D.int_i, D.boo_b, D.str_s, D.rows_l, List.getD_cons_zero, List.getD_cons_succ, List.cons_append, List.nil_append, List.append_nil, List.length_cons, List.length_nil, decide_eq_true_eq, decide_eq_false_iff_not, Bool.not_eq_true', Bool.not_eq_false', Bool.and_eq_true, Bool.and_eq_false_iff, Bool.true_eq_false, Bool.false_eq_true, Bool.not_true, Bool.not_false, eq_self, D.len_l, wr64, not_true_eq_false, not_false_eq_true]); exact srcN_to h2 (by omega) (by omega)) ?_
      rintro _ ρ2 ⟨k0, t3, rfl, p3, q3, h3⟩ eρ
      refine ⟨rfl, ?_⟩
      simp only [List.cons_append, List.nil_append] at eρ
      subst eρ
      obtain ⟨kk, ek⟩ : ∃ kk, 1 + k0 = kk := ⟨_, rfl⟩
      have ok1 : ∀ i : Int, 0 ≤ i → i < l.length → okS l i ∧ -9 ≤ ce l 0 i ∧ ce l 1 i ≤ 16 ∧ 1 ≤ ce l 2 i ∧ ce l 2 i ≤ 20 := fun i a b => by
        have h1 := ok0 i a (by omega)
        have h2 := lc i a (by omega)
        have h3 := lk i a (by omega)
        simp only [okS] at h1 ⊢
        omega
      refine To.loopK (fun m o => ∃ (y : List (List D)) (k : Nat), o = [.l y, .i k] ∧ k + m = l.length ∧ y.length = l.length ∧ Three y ∧ (∀ i : Int, 0 ≤ i → i < l.length → ce y 0 i = ce l 0 i ∧ ce y 1 i = ce l 1 i) ∧ (∀ i : Int, 0 ≤ i → i < k → ce y 2 i = kk * ce l 2 i) ∧ (∀ i : Int, k ≤ i → i < l.length → ce y 2 i = ce l 2 i))
        (fun o => ∃ y : List (List D), o = [.l y] ∧ y.length = l.length ∧ Three y ∧ (∀ i : Int, 0 ≤ i → i < l.length → ce y 0 i = ce l 0 i ∧ ce y 1 i = ce l 1 i) ∧ (∀ i : Int, 0 ≤ i → i < l.length → ce y 2 i = kk * ce l 2 i)) l.length (by omega) ?_ ?_ ?_
      · exact ⟨l, 0, rfl, by omega, rfl, th, fun i _ _ => ⟨rfl, rfl⟩, by intro i; omega, fun i _ _ => rfl⟩
      · rintro m o ρ2 ⟨y, k, rfl, hk, hy, h3, hi, hb, ha⟩ eρ
        simp only [List.cons_append, List.nil_append] at eρ
        subst eρ
        refine To.ite (fun c => ?_) (fun c => ?_) <;> simp only [X.den, X.dens, X.denss, D.int_i, D.boo_b, D.str_s, D.rows_l, List.getD_cons_zero, List.getD_cons_succ, List.cons_append, List.nil_append, List.append_nil, List.length_cons, List.length_nil, decide_eq_true_eq, decide_eq_false_iff_not, Bool.not_eq_true', Bool.not_eq_false', Bool.and_eq_true, Bool.and_eq_false_iff, Bool.true_eq_false, Bool.false_eq_true, Bool.not_true, Bool.not_false, eq_self, D.len_l] at c
        · refine To.need (by simp only [X.den, X.dens, X.denss, D.int_i, D.boo_b, D.str_s, D.rows_l, List.getD_cons_zero, List.getD_cons_succ, List.cons_append, List.nil_append, List.append_nil, List.length_cons, List.length_nil, decide_eq_true_eq, decide_eq_false_iff_not, Bool.not_eq_true', Bool.not_eq_false', Bool.and_eq_true, Bool.and_eq_false_iff, Bool.true_eq_false, Bool.false_eq_true, Bool.not_true, Bool.not_false, eq_self, D.len_l]; omega) ?_
          have o1 := ok1 k (by omega) (by omega)
          have a1 := ha k (by omega) (by omega)
          have m1 := Int.mul_le_mul_of_nonneg_left (show kk ≤ 4 by omega) (show 0 ≤ ce l 2 k by omega)
          have m0 := Int.mul_nonneg (show 0 ≤ ce l 2 k by omega) (show 0 ≤ kk by omega)
          have mc : ce y 2 k * kk = kk * ce l 2 k := by rw [a1, Int.mul_comm]
          have mc2 : ce l 2 k * kk = kk * ce l 2 k := Int.mul_comm _ _
          have pc : ∀ i : Int, 0 ≤ i → _ := fun i i0 => putc_ce (k := k) (v := kk * ce l 2 k) (i := i) h3 (by omega) (by omega) i0
          refine To.ret (.inl ⟨rfl, m - 1, by omega, putc y k (kk * ce l 2 k), k + 1, ?_, by omega, by rw [putc_len]; exact hy, putc_three h3, fun i i0 i1 => ?_, fun i i0 i1 => ?_, fun i i0 i1 => ?_⟩)
          · simp (disch := omega) only [X.den, X.dens, X.denss, D.int_i, D.boo_b, D.str_s, D.rows_l, List.getD_cons_zero, List.getD_cons_succ, List.cons_append, List.nil_append, List.append_nil, List.length_cons, List.length_nil, wr64, ce_def, ek, mc, putc_def, nat_succ]
          · rw [(pc i i0).1, (pc i i0).2.1]; exact hi i i0 i1
          · rw [(pc i i0).2.2]
            split
            · rename_i q; rw [q]
            · exact hb i i0 (by omega)
          · rw [(pc i (by omega)).2.2, if_neg (by omega)]; exact ha i (by omega) i1
        · obtain rfl : k = l.length := by omega
          exact To.ret (.inr ⟨rfl, y, by simp only [X.den, X.dens, X.denss, D.int_i, D.boo_b, D.str_s, D.rows_l, List.getD_cons_zero, List.getD_cons_succ, List.cons_append, List.nil_append, List.append_nil, List.length_cons, List.length_nil], hy, h3, hi, hb⟩)
      rintro o ρ2 ⟨w, rfl, wl, wh, wc, wk⟩ eρ
      simp only [List.cons_append, List.nil_append] at eρ
      subst eρ
      refine ⟨rfl, ?_⟩
      have lv : vd l = 0 := vd_of (by omega) fun i a b => (ok1 i a b).1
      have okw : ∀ i : Int, 0 ≤ i → i < w.length → okS w i := fun i a b => by
        have h1 := ok1 i a (by omega)
        have h2 := wc i a (by omega)
        have h3 := wk i a (by omega)
        have m1 := Int.mul_le_mul_of_nonneg_left (show kk ≤ 4 by omega) (show 0 ≤ ce l 2 i by omega)
        have m0 := Int.mul_le_mul_of_nonneg_left (show 1 ≤ kk by omega) (show 0 ≤ ce l 2 i by omega)
        have mc2 : ce l 2 i * kk = kk * ce l 2 i := Int.mul_comm _ _
        simp only [okS] at h1 ⊢
        omega
      have wv : vd w = 0 := vd_of (by omega) okw
      refine To.viaK (by (try simp (disch := omega) only [X.den, X.dens, X.denss, D.int_i, D.boo_b, D.str_s, D.rows_l, List.getD_cons_zero, List.getD_cons_succ, List.cons_append, List.nil_append, List.append_nil, List.length_cons, List.length_nil, decide_eq_true_eq, decide_eq_false_iff_not, Bool.not_eq_true', Bool.not_eq_false', Bool.and_eq_true, Bool.and_eq_false_iff, Bool.true_eq_false, Bool.false_eq_true, Bool.not_true, Bool.not_false, eq_self, D.len_l, wr64, not_true_eq_false, not_false_eq_true]); exact srcN_to h3 (by omega) (by omega)) ?_
      rintro _ ρ2 ⟨n, t4, rfl, p4, q4, h4⟩ eρ
      refine ⟨rfl, ?_⟩
      simp only [List.cons_append, List.nil_append] at eρ
      subst eρ
      obtain ⟨t, et⟩ : ∃ t, -20 + n = t := ⟨_, rfl⟩
      refine To.viaK (by (try simp (disch := omega) only [X.den, X.dens, X.denss, D.int_i, D.boo_b, D.str_s, D.rows_l, List.getD_cons_zero, List.getD_cons_succ, List.cons_append, List.nil_append, List.append_nil, List.length_cons, List.length_nil, decide_eq_true_eq, decide_eq_false_iff_not, Bool.not_eq_true', Bool.not_eq_false', Bool.and_eq_true, Bool.and_eq_false_iff, Bool.true_eq_false, Bool.false_eq_true, Bool.not_true, Bool.not_false, eq_self, D.len_l, wr64, not_true_eq_false, not_false_eq_true, et]); exact divide_gen (t := t) lv (by omega) (by omega)) ?_
      rintro _ ρ2 ⟨x, rfl, x1, xl, xr, xs, xL⟩ eρ
      refine ⟨rfl, ?_⟩
      simp only [List.cons_append, List.nil_append] at eρ
      subst eρ
      refine To.viaK (by (try simp (disch := omega) only [X.den, X.dens, X.denss, D.int_i, D.boo_b, D.str_s, D.rows_l, List.getD_cons_zero, List.getD_cons_succ, List.cons_append, List.nil_append, List.append_nil, List.length_cons, List.length_nil, decide_eq_true_eq, decide_eq_false_iff_not, Bool.not_eq_true', Bool.not_eq_false', Bool.and_eq_true, Bool.and_eq_false_iff, Bool.true_eq_false, Bool.false_eq_true, Bool.not_true, Bool.not_false, eq_self, D.len_l, wr64, not_true_eq_false, not_false_eq_true, et]); exact divide_gen (t := t) wv (by omega) (by omega)) ?_
      rintro _ ρ2 ⟨y, rfl, y1, yl, yr, ys, yL⟩ eρ
      refine ⟨rfl, ?_⟩
      simp only [List.cons_append, List.nil_append] at eρ
      subst eρ
      refine To.viaK (by (try simp (disch := omega) only [X.den, X.dens, X.denss, D.int_i, D.boo_b, D.str_s, D.rows_l, List.getD_cons_zero, List.getD_cons_succ, List.cons_append, List.nil_append, List.append_nil, List.length_cons, List.length_nil, decide_eq_true_eq, decide_eq_false_iff_not, Bool.not_eq_true', Bool.not_eq_false', Bool.and_eq_true, Bool.and_eq_false_iff, Bool.true_eq_false, Bool.false_eq_true, Bool.not_true, Bool.not_false, eq_self, D.len_l, wr64, not_true_eq_false, not_false_eq_true]); exact srcN_to h4 (by omega) (by omega)) ?_
      rintro _ ρ2 ⟨c0, t5, rfl, p5, q5, h5⟩ eρ
      refine ⟨rfl, ?_⟩
      simp only [List.cons_append, List.nil_append] at eρ
      subst eρ
      refine To.need (by simp only [X.den, X.dens, X.denss, D.int_i, D.boo_b, D.str_s, D.rows_l, List.getD_cons_zero, List.getD_cons_succ, List.cons_append, List.nil_append, List.append_nil, List.length_cons, List.length_nil, decide_eq_true_eq, decide_eq_false_iff_not, Bool.not_eq_true', Bool.not_eq_false', Bool.and_eq_true, Bool.and_eq_false_iff, Bool.true_eq_false, Bool.false_eq_true, Bool.not_true, Bool.not_false, eq_self, D.len_l]; omega) ?_
      obtain ⟨c, ec⟩ : ∃ c, -5 + c0 = c := ⟨_, rfl⟩
      obtain ⟨u, eu⟩ : ∃ u, l ++ [[.i c, .i c, .i 3]] = u := ⟨_, rfl⟩
      have ul : u.length = l.length + 1 := by rw [← eu]; simp
      have ce1 : ∀ (cc : Nat) (i : Int), 0 ≤ i → i < l.length → ce u cc i = ce l cc i := fun cc i a b => by rw [← eu]; exact ce_app a b
      have ce2 : ce u 0 l.length = c ∧ ce u 1 l.length = c ∧ ce u 2 l.length = 3 := by rw [← eu]; exact ⟨ce_last rfl, ce_last rfl, ce_last rfl⟩
      have uv : vd u = 0 := vd_of (by omega) fun i a b => by
        by_cases q : i = l.length
        · subst q; simp only [okS, ce2]; omega
        · have := (ok1 i a (by omega)).1
          simp only [okS, ce1 _ i a (by omega)] at this ⊢
          exact this
      refine To.viaK (by (try simp (disch := omega) only [X.den, X.dens, X.denss, D.int_i, D.boo_b, D.str_s, D.rows_l, List.getD_cons_zero, List.getD_cons_succ, List.cons_append, List.nil_append, List.append_nil, List.length_cons, List.length_nil, decide_eq_true_eq, decide_eq_false_iff_not, Bool.not_eq_true', Bool.not_eq_false', Bool.and_eq_true, Bool.and_eq_false_iff, Bool.true_eq_false, Bool.false_eq_true, Bool.not_true, Bool.not_false, eq_self, D.len_l, wr64, not_true_eq_false, not_false_eq_true, et, ec, X.denss, eu]); exact divide_gen (t := t + c) uv (by omega) (by omega)) ?_
      rintro _ ρ2 ⟨z, rfl, z1, zl, zr, zs, zL⟩ eρ
      refine ⟨rfl, ?_⟩
      simp only [List.cons_append, List.nil_append] at eρ
      subst eρ
      have s0 : reS w 0 = reS l 0 ∧ reS w 1 = reS l 1 := by
        simp only [reS, lv, wv, if_true, eq_self]
        rw [wl]
        exact ⟨sumf_congr fun i a b => (wc i a b).1, sumf_congr fun i a b => (wc i a b).2⟩
      have s1 : reS u 0 = reS l 0 + c ∧ reS u 1 = reS l 1 + c := by
        simp only [reS, lv, uv, if_true, eq_self]
        rw [ul]
        simp only [sumf, ce2]
        rw [sumf_congr (f := ce u 0) (g := ce l 0) fun i a b => ce1 0 i a b, sumf_congr (f := ce u 1) (g := ce l 1) fun i a b => ce1 1 i a b]
        exact ⟨rfl, rfl⟩
      have gw : goal w t = goal l t := by simp only [goal, s0]
      have gu : goal u (t + c) = goal l t + c := by simp only [goal, s1]; omega
      have hc : ∀ i : Int, 0 ≤ i → i < l.length → 1 ≤ ce l 2 i := fun i a b => (ok1 i a b).2.2.2.1
      have xy : ∀ i : Int, 0 ≤ i → i < l.length → ce x 0 i = ce y 0 i := lex_unique hc xr (fun i a b => by rw [← (wc i a b).1, ← (wc i a b).2]; exact yr i a (by omega)) xL
        (lex_scale (k := kk) (by omega) (lex_congr (fun i a b => ⟨(wc i a b).1, (wc i a b).2, wk i a b, rfl⟩) (by rw [← wl]; exact yL))) (by rw [xs, ← wl, ys, gw])
      have zc : ce z 0 l.length = c := by
        have := zr l.length (by omega) (by omega)
        rw [ce2.1, ce2.2.1] at this
        omega
      have zx : ∀ i : Int, 0 ≤ i → i < l.length → ce z 0 i = ce x 0 i := lex_unique hc (fun i a b => by have := zr i a (by omega); rw [ce1 0 i a b, ce1 1 i a b] at this; exact this) xr
        (fun i j a b d e f g k => by
          have := zL i j a (by omega) d (by omega) f (by rw [ce1 0 i a b]; exact g) (by rw [ce1 1 j d e]; exact k)
          rw [ce1 2 i a b, ce1 2 j d e] at this
          exact this) xL (by
          have := zs
          rw [ul] at this
          simp only [sumf] at this
          rw [zc, gu] at this
          omega)
      have x20 : x.length ≤ 20 := by omega
      refine To.joinK (fun o => o = [.b false]) ?_ ?_
      · refine To.yes rfl (To.yes rfl (To.yes rfl (To.yes (by simp (disch := omega) only [X.den, X.dens, X.denss, D.int_i, D.boo_b, D.str_s, D.rows_l, List.getD_cons_zero, List.getD_cons_succ, List.cons_append, List.nil_append, List.append_nil, List.length_cons, List.length_nil, decide_eq_true_eq, decide_eq_false_iff_not, Bool.not_eq_true', Bool.not_eq_false', Bool.and_eq_true, Bool.and_eq_false_iff, Bool.true_eq_false, Bool.false_eq_true, Bool.not_true, Bool.not_false, eq_self, D.len_l, wr64]; omega) ?_)))
        refine To.viaK (by (try simp (disch := omega) only [X.den, X.dens, X.denss, D.int_i, D.boo_b, D.str_s, D.rows_l, List.getD_cons_zero, List.getD_cons_succ, List.cons_append, List.nil_append, List.append_nil, List.length_cons, List.length_nil, decide_eq_true_eq, decide_eq_false_iff_not, Bool.not_eq_true', Bool.not_eq_false', Bool.and_eq_true, Bool.and_eq_false_iff, Bool.true_eq_false, Bool.false_eq_true, Bool.not_true, Bool.not_false, eq_self, D.len_l, wr64, not_true_eq_false, not_false_eq_true]); exact ints_gen x20) ?_
        rintro _ ρ2 rfl eρ
        refine ⟨rfl, ?_⟩
        simp only [List.cons_append, List.nil_append] at eρ
        subst eρ
        refine To.yes (by simp only [X.den, X.dens, X.denss, D.int_i, D.boo_b, D.str_s, D.rows_l, List.getD_cons_zero, List.getD_cons_succ, List.cons_append, List.nil_append, List.append_nil, List.length_cons, List.length_nil]; exact sameN_true.2 ⟨by omega, fun i a b => xy i a (by omega)⟩) ?_
        refine To.yes (by simp (disch := omega) only [X.den, X.dens, X.denss, D.int_i, D.boo_b, D.str_s, D.rows_l, List.getD_cons_zero, List.getD_cons_succ, List.cons_append, List.nil_append, List.append_nil, List.length_cons, List.length_nil, decide_eq_true_eq, decide_eq_false_iff_not, Bool.not_eq_true', Bool.not_eq_false', Bool.and_eq_true, Bool.and_eq_false_iff, Bool.true_eq_false, Bool.false_eq_true, Bool.not_true, Bool.not_false, eq_self, wr64]; omega) ?_
        refine To.yes (by simp (disch := omega) only [X.den, X.dens, X.denss, D.int_i, D.boo_b, D.str_s, D.rows_l, List.getD_cons_zero, List.getD_cons_succ, List.cons_append, List.nil_append, List.append_nil, List.length_cons, List.length_nil, decide_eq_true_eq, decide_eq_false_iff_not, Bool.not_eq_true', Bool.not_eq_false', Bool.and_eq_true, Bool.and_eq_false_iff, Bool.true_eq_false, Bool.false_eq_true, Bool.not_true, Bool.not_false, eq_self, wr64]; omega) ?_
        refine To.need (by simp (disch := omega) only [X.den, X.dens, X.denss, D.int_i, D.boo_b, D.str_s, D.rows_l, List.getD_cons_zero, List.getD_cons_succ, List.cons_append, List.nil_append, List.append_nil, List.length_cons, List.length_nil, decide_eq_true_eq, decide_eq_false_iff_not, Bool.not_eq_true', Bool.not_eq_false', Bool.and_eq_true, Bool.and_eq_false_iff, Bool.true_eq_false, Bool.false_eq_true, Bool.not_true, Bool.not_false, eq_self, D.len_l]; omega) ?_
        refine To.yes (by simp (disch := omega) only [X.den, X.dens, X.denss, D.int_i, D.boo_b, D.str_s, D.rows_l, List.getD_cons_zero, List.getD_cons_succ, List.cons_append, List.nil_append, List.append_nil, List.length_cons, List.length_nil, decide_eq_true_eq, decide_eq_false_iff_not, Bool.not_eq_true', Bool.not_eq_false', Bool.and_eq_true, Bool.and_eq_false_iff, Bool.true_eq_false, Bool.false_eq_true, Bool.not_true, Bool.not_false, eq_self, D.len_l, wr64, ce_def, ec]; rw [show min (l.length : Int) 9223372036854775807 = l.length by omega]; exact zc) ?_
        refine To.need (by simp (disch := omega) only [X.den, X.dens, X.denss, D.int_i, D.boo_b, D.str_s, D.rows_l, List.getD_cons_zero, List.getD_cons_succ, List.cons_append, List.nil_append, List.append_nil, List.length_cons, List.length_nil, decide_eq_true_eq, decide_eq_false_iff_not, Bool.not_eq_true', Bool.not_eq_false', Bool.and_eq_true, Bool.and_eq_false_iff, Bool.true_eq_false, Bool.false_eq_true, Bool.not_true, Bool.not_false, eq_self, D.len_l]; omega) ?_
        have ez : (min (l.length : Int) 9223372036854775807).toNat = l.length := by omega
        have z20 : (z.take l.length).length ≤ 20 := by rw [List.length_take]; omega
        refine To.viaK (by (try simp (disch := omega) only [X.den, X.dens, X.denss, D.int_i, D.boo_b, D.str_s, D.rows_l, List.getD_cons_zero, List.getD_cons_succ, List.cons_append, List.nil_append, List.append_nil, List.length_cons, List.length_nil, decide_eq_true_eq, decide_eq_false_iff_not, Bool.not_eq_true', Bool.not_eq_false', Bool.and_eq_true, Bool.and_eq_false_iff, Bool.true_eq_false, Bool.false_eq_true, Bool.not_true, Bool.not_false, eq_self, D.len_l, wr64, not_true_eq_false, not_false_eq_true, ez]); exact ints_gen (y := x) z20) ?_
        rintro _ ρ2 rfl eρ
        refine ⟨rfl, ?_⟩
        simp only [List.cons_append, List.nil_append] at eρ
        subst eρ
        refine To.ret ⟨rfl, ?_⟩
        have : sameN (z.take l.length) x = true := sameN_true.2 ⟨by rw [List.length_take]; omega, fun i a b => by rw [List.length_take] at b; rw [ce_take a (by omega)]; exact zx i a (by omega)⟩
        simp only [X.den, X.dens, X.denss, D.int_i, D.boo_b, D.str_s, D.rows_l, List.getD_cons_zero, List.getD_cons_succ, List.cons_append, List.nil_append, List.append_nil, List.length_cons, List.length_nil, this]
        rfl
      rintro o ρ2 rfl eρ
      simp only [List.cons_append, List.nil_append] at eρ
      subst eρ
      refine To.no rfl ?_
      have inl : InR l x := ⟨xl, xr⟩
      have inw : InR w x := ⟨by omega, fun i a b => by rw [(wc i a (by omega)).1, (wc i a (by omega)).2]; exact xr i a (by omega)⟩
      have su1 : suS l x = (sumf (cost l x) l.length, 0) := by rw [suS, if_pos lv, if_pos xl, if_pos (inr_true.2 inl)]
      have su2 : suS w x = (kk * sumf (cost l x) l.length, 0) := by
        rw [suS, if_pos wv, if_pos inw.1, if_pos (inr_true.2 inw), wl]
        rw [sumf_mul (f := cost l x) (k := kk) fun i a b => by simp only [cost, wk i a b]; rw [Int.mul_assoc, Int.mul_assoc, Int.mul_assoc]]
      have cb := sumf_bound (f := cost l x) (a := 0) (b := 2500000000) (n := l.length) fun i a b => (cost_rng (ok1 i a b).1 (xr i a b)).2
      refine To.viaK (by (try simp (disch := omega) only [X.den, X.dens, X.denss, D.int_i, D.boo_b, D.str_s, D.rows_l, List.getD_cons_zero, List.getD_cons_succ, List.cons_append, List.nil_append, List.append_nil, List.length_cons, List.length_nil, decide_eq_true_eq, decide_eq_false_iff_not, Bool.not_eq_true', Bool.not_eq_false', Bool.and_eq_true, Bool.and_eq_false_iff, Bool.true_eq_false, Bool.false_eq_true, Bool.not_true, Bool.not_false, eq_self, D.len_l, wr64, not_true_eq_false, not_false_eq_true]); exact sum_gen (l := l) (x := x)) ?_
      rintro _ ρ2 rfl eρ
      refine ⟨rfl, ?_⟩
      simp only [List.cons_append, List.nil_append] at eρ
      subst eρ
      refine To.viaK (by (try simp (disch := omega) only [X.den, X.dens, X.denss, D.int_i, D.boo_b, D.str_s, D.rows_l, List.getD_cons_zero, List.getD_cons_succ, List.cons_append, List.nil_append, List.append_nil, List.length_cons, List.length_nil, decide_eq_true_eq, decide_eq_false_iff_not, Bool.not_eq_true', Bool.not_eq_false', Bool.and_eq_true, Bool.and_eq_false_iff, Bool.true_eq_false, Bool.false_eq_true, Bool.not_true, Bool.not_false, eq_self, D.len_l, wr64, not_true_eq_false, not_false_eq_true]); exact sum_gen (l := w) (x := x)) ?_
      rintro _ ρ2 rfl eρ
      refine ⟨rfl, ?_⟩
      simp only [List.cons_append, List.nil_append] at eρ
      subst eρ
      rw [su1, su2]
      have m0 := Int.mul_le_mul_of_nonneg_left (show kk ≤ 4 by omega) (show 0 ≤ sumf (cost l x) l.length by omega)
      have m1 := Int.mul_nonneg (show 0 ≤ sumf (cost l x) l.length by omega) (show 0 ≤ kk by omega)
      rw [Int.mul_comm] at m0 m1
      refine To.joinK (fun o => o = [.b true]) ?_ ?_
      · refine To.yes rfl (To.yes rfl (To.yes (by simp (disch := omega) only [X.den, X.dens, X.denss, D.int_i, D.boo_b, D.str_s, D.rows_l, List.getD_cons_zero, List.getD_cons_succ, List.cons_append, List.nil_append, List.append_nil, List.length_cons, List.length_nil, decide_eq_true_eq, decide_eq_false_iff_not, Bool.not_eq_true', Bool.not_eq_false', Bool.and_eq_true, Bool.and_eq_false_iff, Bool.true_eq_false, Bool.false_eq_true, Bool.not_true, Bool.not_false, eq_self, wr64, ek]) ?_))
        refine To.callK (l := [.b true]) rfl rfl _ (by simp only [List.cons_append, List.nil_append]; first | done | rfl) ?_
        exact To.ret ⟨rfl, by simp only [X.den, X.dens, X.denss, D.int_i, D.boo_b, D.str_s, D.rows_l, List.getD_cons_zero, List.getD_cons_succ, List.cons_append, List.nil_append, List.append_nil, List.length_cons, List.length_nil]⟩
      rintro o ρ2 rfl eρ
      simp only [List.cons_append, List.nil_append] at eρ
      subst eρ
      exact To.ret (by simp only [X.den, X.dens, X.denss, D.int_i, D.boo_b, D.str_s, D.rows_l, List.getD_cons_zero, List.getD_cons_succ, List.cons_append, List.nil_append, List.append_nil, List.length_cons, List.length_nil])
    · cases h
theorem ShareScales_walk {w : World} (v : Value) (zs : List Int) (h : IntsIn w w.heap.size v .i64 zs) (hz : ∀ z ∈ zs, (Lit.int .i64 z).wf = true) : Calls Try.prog 7 #[v] w fun e w' => e = .returned (.bool true) ∧ Below w.heap.size w w' :=
  con_law ShareScales_ok rfl (fun G hG => args_ints h hG (by trivial)) (by simp [shSca_K]) (ds := [numD zs]) rfl
end Go.Proofs.Ytlhnhidoljfnnaa
