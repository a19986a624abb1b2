/- Sines. -/
import Derived.Test.YtdkamfkpmplaoaaSN
set_option linter.unusedVariables false
set_option linter.unusedSimpArgs false
namespace Go.Proofs.Ytdkamfkpmplaoaa
open Go.RowKit Fx
def fxSin_K : Con := ⟨14, [.val false [.int .i64]], [.val false [.int .i64]], []⟩
def fxSin_T : T (List X) :=
  (.sub (.ite (.lt (.rem (.V 0) (.N 3600)) (.N 0))
   (.ret [(.add (.rem (.V 0) (.N 3600)) (.N 3600))])
   (.ret [(.rem (.V 0) (.N 3600))])) 1
  (.ite (.lt (.N 1800) (.V 1))
   (.sub (.sub (.ite (.lt (.sub (.N 4050000) (.mul (.sub (.V 1) (.N 1800)) (.sub (.N 1800) (.sub (.V 1) (.N 1800))))) (.N 1))
      (.ret [(.B true)])
      (.ret [(.B false)])) 1
     (.ite (.V 2)
      (.ret [(.N 0), (.N 1)])
      (.need (.not (.eq (.sub (.N 4050000) (.mul (.sub (.V 1) (.N 1800)) (.sub (.N 1800) (.sub (.V 1) (.N 1800))))) (.N 0)))
       (.sub (.ite (.lt (.rem (.mul (.N 40000) (.mul (.sub (.V 1) (.N 1800)) (.sub (.N 1800) (.sub (.V 1) (.N 1800))))) (.sub (.N 4050000) (.mul (.sub (.V 1) (.N 1800)) (.sub (.N 1800) (.sub (.V 1) (.N 1800)))))) (.N 0))
         (.ret [(.wr .i64 (.sub (.wr .i64 (.quo (.mul (.N 40000) (.mul (.sub (.V 1) (.N 1800)) (.sub (.N 1800) (.sub (.V 1) (.N 1800))))) (.sub (.N 4050000) (.mul (.sub (.V 1) (.N 1800)) (.sub (.N 1800) (.sub (.V 1) (.N 1800))))))) (.N 1))), (.wr .i64 (.add (.rem (.mul (.N 40000) (.mul (.sub (.V 1) (.N 1800)) (.sub (.N 1800) (.sub (.V 1) (.N 1800))))) (.sub (.N 4050000) (.mul (.sub (.V 1) (.N 1800)) (.sub (.N 1800) (.sub (.V 1) (.N 1800)))))) (.sub (.N 4050000) (.mul (.sub (.V 1) (.N 1800)) (.sub (.N 1800) (.sub (.V 1) (.N 1800)))))))])
         (.ret [(.wr .i64 (.quo (.mul (.N 40000) (.mul (.sub (.V 1) (.N 1800)) (.sub (.N 1800) (.sub (.V 1) (.N 1800))))) (.sub (.N 4050000) (.mul (.sub (.V 1) (.N 1800)) (.sub (.N 1800) (.sub (.V 1) (.N 1800))))))), (.rem (.mul (.N 40000) (.mul (.sub (.V 1) (.N 1800)) (.sub (.N 1800) (.sub (.V 1) (.N 1800))))) (.sub (.N 4050000) (.mul (.sub (.V 1) (.N 1800)) (.sub (.N 1800) (.sub (.V 1) (.N 1800))))))])) 2
        (.sub (.ite (.lt (.wr .i64 (.mul (.N 2) (.V 4))) (.sub (.N 4050000) (.mul (.sub (.V 1) (.N 1800)) (.sub (.N 1800) (.sub (.V 1) (.N 1800))))))
          (.ret [(.V 3)])
          (.ret [(.wr .i64 (.add (.V 3) (.N 1)))])) 1
         (.ret [(.V 5), (.N 0)])))))) 2
    (.ret [(.wr .i64 (.sub (.N 0) (.V 2)))]))
   (.sub (.sub (.ite (.lt (.sub (.N 4050000) (.mul (.V 1) (.sub (.N 1800) (.V 1)))) (.N 1))
      (.ret [(.B true)])
      (.ret [(.B false)])) 1
     (.ite (.V 2)
      (.ret [(.N 0), (.N 1)])
      (.need (.not (.eq (.sub (.N 4050000) (.mul (.V 1) (.sub (.N 1800) (.V 1)))) (.N 0)))
       (.sub (.ite (.lt (.rem (.mul (.N 40000) (.mul (.V 1) (.sub (.N 1800) (.V 1)))) (.sub (.N 4050000) (.mul (.V 1) (.sub (.N 1800) (.V 1))))) (.N 0))
         (.ret [(.wr .i64 (.sub (.wr .i64 (.quo (.mul (.N 40000) (.mul (.V 1) (.sub (.N 1800) (.V 1)))) (.sub (.N 4050000) (.mul (.V 1) (.sub (.N 1800) (.V 1)))))) (.N 1))), (.wr .i64 (.add (.rem (.mul (.N 40000) (.mul (.V 1) (.sub (.N 1800) (.V 1)))) (.sub (.N 4050000) (.mul (.V 1) (.sub (.N 1800) (.V 1))))) (.sub (.N 4050000) (.mul (.V 1) (.sub (.N 1800) (.V 1))))))])
         (.ret [(.wr .i64 (.quo (.mul (.N 40000) (.mul (.V 1) (.sub (.N 1800) (.V 1)))) (.sub (.N 4050000) (.mul (.V 1) (.sub (.N 1800) (.V 1)))))), (.rem (.mul (.N 40000) (.mul (.V 1) (.sub (.N 1800) (.V 1)))) (.sub (.N 4050000) (.mul (.V 1) (.sub (.N 1800) (.V 1)))))])) 2
        (.sub (.ite (.lt (.wr .i64 (.mul (.N 2) (.V 4))) (.sub (.N 4050000) (.mul (.V 1) (.sub (.N 1800) (.V 1)))))
          (.ret [(.V 3)])
          (.ret [(.wr .i64 (.add (.V 3) (.N 1)))])) 1
         (.ret [(.V 5), (.N 0)])))))) 2
    (.ret [(.V 2)]))))
set_option maxRecDepth 100000 in
theorem fxSin_t : runS Try.prog [] [] fxSin_K = fxSin_T := by kernel_rfl
theorem fxSin_ok : ConOk Try.prog fxSin_K (fxSin_T.run noM 0) := con_run follows no_cons fxSin_t rfl 0
theorem arch_rng {x : Int} (h0 : 0 ≤ x) (h1 : x ≤ 1800) : 0 ≤ x * (1800 - x) ∧ x * (1800 - x) ≤ 810000 := by
  refine ⟨Int.mul_nonneg h0 (by omega), ?_⟩
  have e : x * (1800 - x) = 810000 - (x - 900) * (x - 900) := by
    simp only [Int.mul_sub, Int.sub_mul]; omega
  have : 0 ≤ (x - 900) * (x - 900) := by
    rcases Int.le_total 900 x with h | h
    · exact Int.mul_nonneg (by omega) (by omega)
    · exact Int.mul_nonneg_of_nonpos_of_nonpos (by omega) (by omega)
  omega
theorem arch_half {u : Int} (h0 : 0 ≤ u) (h1 : u ≤ 810000) : ¬ (40000 * u).tmod (4050000 - u) < 0 ∧ 0 ≤ (40000 * u).tdiv (4050000 - u) ∧ (40000 * u).tdiv (4050000 - u) ≤ 10000 ∧ (40000 * u).tmod (4050000 - u) < 4050000 - u ∧ (¬ 2 * (40000 * u).tmod (4050000 - u) < 4050000 - u → (40000 * u).tdiv (4050000 - u) ≤ 9999) := by
  have hd : 0 < 4050000 - u := by omega
  have hn : 0 ≤ 40000 * u := by omega
  have e := Int.tdiv_mul_add_tmod (40000 * u) (4050000 - u)
  have r0 := Int.tmod_nonneg (4050000 - u) hn
  have r1 := Int.tmod_lt_of_pos (40000 * u) hd
  have q0 := Int.tdiv_nonneg hn (show 0 ≤ 4050000 - u by omega)
  generalize (40000 * u).tdiv (4050000 - u) = q at *
  generalize (40000 * u).tmod (4050000 - u) = r at *
  have hq : q ≤ 10000 := by
    apply Int.not_lt.1
    intro h
    have := Int.mul_le_mul_of_nonneg_right (show 10001 ≤ q by omega) (show 0 ≤ 4050000 - u by omega)
    omega
  refine ⟨by omega, q0, hq, r1, fun h => ?_⟩
  apply Int.not_lt.1
  intro h2
  have e10 : q = 10000 := by omega
  subst e10
  omega
theorem sin_to {a : Int} (h0 : 0 ≤ a) (h1 : a < 3600) : ∃ l, fxSin_T.run noM 0 [.i a] = some l ∧ ∃ v, l = [.i v] ∧ -10000 ≤ v ∧ v ≤ 10000 := by
  refine run_to ?_
  unfold fxSin_T
  refine To.pick1 (by simp only [X.den, X.dens, X.denss, D.int_i, D.boo_b, D.str_s, D.rows_l, List.getD_cons_zero, List.getD_cons_succ, List.cons_append, List.nil_append, List.append_nil, List.length_cons, List.length_nil]; rfl) (by simp only [X.den, X.dens, X.denss, D.int_i, D.boo_b, D.str_s, D.rows_l, List.getD_cons_zero, List.getD_cons_succ, List.cons_append, List.nil_append, List.append_nil, List.length_cons, List.length_nil]; rfl) (by simp only [X.den, X.dens, X.denss, D.int_i, D.boo_b, D.str_s, D.rows_l, List.getD_cons_zero, List.getD_cons_succ, List.cons_append, List.nil_append, List.append_nil, List.length_cons, List.length_nil]; rfl) ?_; simp only [List.cons_append, List.nil_append, norm_if]
  generalize hn : a % 3600 = n
  refine To.ite (fun c => ?_) (fun c => ?_)
  · simp only [X.den, X.dens, X.denss, D.int_i, D.boo_b, D.str_s, D.rows_l, List.getD_cons_zero, List.getD_cons_succ, List.cons_append, List.nil_append, List.append_nil, List.length_cons, List.length_nil, decide_eq_true_eq] at c
    obtain ⟨u0, u1⟩ := arch_rng (x := n - 1800) (by omega) (by omega)
    obtain ⟨p1, p2, p3, p4, p5⟩ := arch_half u0 u1
    have r0 := Int.tmod_nonneg (a := 40000 * ((n - 1800) * (1800 - (n - 1800)))) (4050000 - (n - 1800) * (1800 - (n - 1800))) (by omega)
    refine To.join (fun l => ∃ v, l = [.i v, .i 0] ∧ 0 ≤ v ∧ v ≤ 10000) (To.sub (To.no ?_ (To.ret ⟨rfl, To.no ?_ (To.need ?_ (To.sub (To.no ?_ (To.ret ⟨rfl, ?_⟩))))⟩))) ?_
    · simp only [X.den, X.dens, X.denss, D.int_i, D.boo_b, D.str_s, D.rows_l, List.getD_cons_zero, List.getD_cons_succ, List.cons_append, List.nil_append, List.append_nil, List.length_cons, List.length_nil, decide_eq_false_iff_not]; omega
    · simp only [X.den, X.dens, X.denss, D.int_i, D.boo_b, D.str_s, D.rows_l, List.getD_cons_zero, List.getD_cons_succ, List.cons_append, List.nil_append, List.append_nil, List.length_cons, List.length_nil]
    · simp only [X.den, X.dens, X.denss, D.int_i, D.boo_b, D.str_s, D.rows_l, List.getD_cons_zero, List.getD_cons_succ, List.cons_append, List.nil_append, List.append_nil, List.length_cons, List.length_nil, Bool.not_eq_true', decide_eq_false_iff_not]; omega
    · simp only [X.den, X.dens, X.denss, D.int_i, D.boo_b, D.str_s, D.rows_l, List.getD_cons_zero, List.getD_cons_succ, List.cons_append, List.nil_append, List.append_nil, List.length_cons, List.length_nil, decide_eq_false_iff_not]; exact p1
    · simp only [X.den, X.dens, X.denss, D.int_i, D.boo_b, D.str_s, D.rows_l, List.getD_cons_zero, List.getD_cons_succ, List.cons_append, List.nil_append, List.append_nil, List.length_cons, List.length_nil]
      rw [wr64 (by omega) (by omega)]
      refine To.sub (To.ite (fun c => To.ret ⟨rfl, To.ret ⟨rfl, ?_⟩⟩) fun c => To.ret ⟨rfl, To.ret ⟨rfl, ?_⟩⟩)
      · simp only [X.den, X.dens, X.denss, D.int_i, D.boo_b, D.str_s, D.rows_l, List.getD_cons_zero, List.getD_cons_succ, List.cons_append, List.nil_append, List.append_nil, List.length_cons, List.length_nil]; exact ⟨_, rfl, p2, p3⟩
      · simp only [X.den, X.dens, X.denss, D.int_i, D.boo_b, D.str_s, D.rows_l, List.getD_cons_zero, List.getD_cons_succ, List.cons_append, List.nil_append, List.append_nil, List.length_cons, List.length_nil, decide_eq_false_iff_not] at c ⊢
        rw [wr64 (by omega) (by omega)] at c
        have := p5 c
        rw [wr64 (by omega) (by omega)]
        exact ⟨_, rfl, by omega, by omega⟩
    rintro l ⟨v, rfl, v0, v1⟩
    refine To.ret ?_
    simp only [X.den, X.dens, X.denss, D.int_i, D.boo_b, D.str_s, D.rows_l, List.getD_cons_zero, List.getD_cons_succ, List.cons_append, List.nil_append, List.append_nil, List.length_cons, List.length_nil]
    rw [wr64 (by omega) (by omega)]
    exact ⟨_, rfl, by omega, by omega⟩
  · simp only [X.den, X.dens, X.denss, D.int_i, D.boo_b, D.str_s, D.rows_l, List.getD_cons_zero, List.getD_cons_succ, List.cons_append, List.nil_append, List.append_nil, List.length_cons, List.length_nil, decide_eq_false_iff_not] at c
    obtain ⟨u0, u1⟩ := arch_rng (x := n) (by omega) (by omega)
    obtain ⟨p1, p2, p3, p4, p5⟩ := arch_half u0 u1
    have r0 := Int.tmod_nonneg (a := 40000 * ((n) * (1800 - (n)))) (4050000 - (n) * (1800 - (n))) (by omega)
    refine To.join (fun l => ∃ v, l = [.i v, .i 0] ∧ 0 ≤ v ∧ v ≤ 10000) (To.sub (To.no ?_ (To.ret ⟨rfl, To.no ?_ (To.need ?_ (To.sub (To.no ?_ (To.ret ⟨rfl, ?_⟩))))⟩))) ?_
    · simp only [X.den, X.dens, X.denss, D.int_i, D.boo_b, D.str_s, D.rows_l, List.getD_cons_zero, List.getD_cons_succ, List.cons_append, List.nil_append, List.append_nil, List.length_cons, List.length_nil, decide_eq_false_iff_not]; omega
    · simp only [X.den, X.dens, X.denss, D.int_i, D.boo_b, D.str_s, D.rows_l, List.getD_cons_zero, List.getD_cons_succ, List.cons_append, List.nil_append, List.append_nil, List.length_cons, List.length_nil]
    · simp only [X.den, X.dens, X.denss, D.int_i, D.boo_b, D.str_s, D.rows_l, List.getD_cons_zero, List.getD_cons_succ, List.cons_append, List.nil_append, List.append_nil, List.length_cons, List.length_nil, Bool.not_eq_true', decide_eq_false_iff_not]; omega
    · simp only [X.den, X.dens, X.denss, D.int_i, D.boo_b, D.str_s, D.rows_l, List.getD_cons_zero, List.getD_cons_succ, List.cons_append, List.nil_append, List.append_nil, List.length_cons, List.length_nil, decide_eq_false_iff_not]; exact p1
    · simp only [X.den, X.dens, X.denss, D.int_i, D.boo_b, D.str_s, D.rows_l, List.getD_cons_zero, List.getD_cons_succ, List.cons_append, List.nil_append, List.append_nil, List.length_cons, List.length_nil]
      rw [wr64 (by omega) (by omega)]
      refine To.sub (To.ite (fun c => To.ret ⟨rfl, To.ret ⟨rfl, ?_⟩⟩) fun c => To.ret ⟨rfl, To.ret ⟨rfl, ?_⟩⟩)
      · simp only [X.den, X.dens, X.denss, D.int_i, D.boo_b, D.str_s, D.rows_l, List.getD_cons_zero, List.getD_cons_succ, List.cons_append, List.nil_append, List.append_nil, List.length_cons, List.length_nil]; exact ⟨_, rfl, p2, p3⟩
      · simp only [X.den, X.dens, X.denss, D.int_i, D.boo_b, D.str_s, D.rows_l, List.getD_cons_zero, List.getD_cons_succ, List.cons_append, List.nil_append, List.append_nil, List.length_cons, List.length_nil, decide_eq_false_iff_not] at c ⊢
        rw [wr64 (by omega) (by omega)] at c
        have := p5 c
        rw [wr64 (by omega) (by omega)]
        exact ⟨_, rfl, by omega, by omega⟩
    rintro l ⟨v, rfl, v0, v1⟩
    refine To.ret ?_
    simp only [X.den, X.dens, X.denss, D.int_i, D.boo_b, D.str_s, D.rows_l, List.getD_cons_zero, List.getD_cons_succ, List.cons_append, List.nil_append, List.append_nil, List.length_cons, List.length_nil]
    exact ⟨_, rfl, by omega, by omega⟩
def fxCos_K : Con := ⟨16, [.val false [.int .i64]], [.val false [.int .i64]], []⟩
def fxCos_T : T (List X) :=
  (.sub (.ite (.lt (.rem (.V 0) (.N 3600)) (.N 0))
   (.ret [(.add (.rem (.V 0) (.N 3600)) (.N 3600))])
   (.ret [(.rem (.V 0) (.N 3600))])) 1
  (.sub (.sub (.ite (.lt (.rem (.add (.V 1) (.N 900)) (.N 3600)) (.N 0))
     (.ret [(.add (.rem (.add (.V 1) (.N 900)) (.N 3600)) (.N 3600))])
     (.ret [(.rem (.add (.V 1) (.N 900)) (.N 3600))])) 1
    (.ite (.lt (.N 1800) (.V 2))
     (.sub (.sub (.ite (.lt (.sub (.N 4050000) (.mul (.sub (.V 2) (.N 1800)) (.sub (.N 1800) (.sub (.V 2) (.N 1800))))) (.N 1))
        (.ret [(.B true)])
        (.ret [(.B false)])) 1
       (.ite (.V 3)
        (.ret [(.N 0), (.N 1)])
        (.need (.not (.eq (.sub (.N 4050000) (.mul (.sub (.V 2) (.N 1800)) (.sub (.N 1800) (.sub (.V 2) (.N 1800))))) (.N 0)))
         (.sub (.ite (.lt (.rem (.mul (.N 40000) (.mul (.sub (.V 2) (.N 1800)) (.sub (.N 1800) (.sub (.V 2) (.N 1800))))) (.sub (.N 4050000) (.mul (.sub (.V 2) (.N 1800)) (.sub (.N 1800) (.sub (.V 2) (.N 1800)))))) (.N 0))
           (.ret [(.wr .i64 (.sub (.wr .i64 (.quo (.mul (.N 40000) (.mul (.sub (.V 2) (.N 1800)) (.sub (.N 1800) (.sub (.V 2) (.N 1800))))) (.sub (.N 4050000) (.mul (.sub (.V 2) (.N 1800)) (.sub (.N 1800) (.sub (.V 2) (.N 1800))))))) (.N 1))), (.wr .i64 (.add (.rem (.mul (.N 40000) (.mul (.sub (.V 2) (.N 1800)) (.sub (.N 1800) (.sub (.V 2) (.N 1800))))) (.sub (.N 4050000) (.mul (.sub (.V 2) (.N 1800)) (.sub (.N 1800) (.sub (.V 2) (.N 1800)))))) (.sub (.N 4050000) (.mul (.sub (.V 2) (.N 1800)) (.sub (.N 1800) (.sub (.V 2) (.N 1800)))))))])
           (.ret [(.wr .i64 (.quo (.mul (.N 40000) (.mul (.sub (.V 2) (.N 1800)) (.sub (.N 1800) (.sub (.V 2) (.N 1800))))) (.sub (.N 4050000) (.mul (.sub (.V 2) (.N 1800)) (.sub (.N 1800) (.sub (.V 2) (.N 1800))))))), (.rem (.mul (.N 40000) (.mul (.sub (.V 2) (.N 1800)) (.sub (.N 1800) (.sub (.V 2) (.N 1800))))) (.sub (.N 4050000) (.mul (.sub (.V 2) (.N 1800)) (.sub (.N 1800) (.sub (.V 2) (.N 1800))))))])) 2
          (.sub (.ite (.lt (.wr .i64 (.mul (.N 2) (.V 5))) (.sub (.N 4050000) (.mul (.sub (.V 2) (.N 1800)) (.sub (.N 1800) (.sub (.V 2) (.N 1800))))))
            (.ret [(.V 4)])
            (.ret [(.wr .i64 (.add (.V 4) (.N 1)))])) 1
           (.ret [(.V 6), (.N 0)])))))) 2
      (.ret [(.wr .i64 (.sub (.N 0) (.V 3)))]))
     (.sub (.sub (.ite (.lt (.sub (.N 4050000) (.mul (.V 2) (.sub (.N 1800) (.V 2)))) (.N 1))
        (.ret [(.B true)])
        (.ret [(.B false)])) 1
       (.ite (.V 3)
        (.ret [(.N 0), (.N 1)])
        (.need (.not (.eq (.sub (.N 4050000) (.mul (.V 2) (.sub (.N 1800) (.V 2)))) (.N 0)))
         (.sub (.ite (.lt (.rem (.mul (.N 40000) (.mul (.V 2) (.sub (.N 1800) (.V 2)))) (.sub (.N 4050000) (.mul (.V 2) (.sub (.N 1800) (.V 2))))) (.N 0))
           (.ret [(.wr .i64 (.sub (.wr .i64 (.quo (.mul (.N 40000) (.mul (.V 2) (.sub (.N 1800) (.V 2)))) (.sub (.N 4050000) (.mul (.V 2) (.sub (.N 1800) (.V 2)))))) (.N 1))), (.wr .i64 (.add (.rem (.mul (.N 40000) (.mul (.V 2) (.sub (.N 1800) (.V 2)))) (.sub (.N 4050000) (.mul (.V 2) (.sub (.N 1800) (.V 2))))) (.sub (.N 4050000) (.mul (.V 2) (.sub (.N 1800) (.V 2))))))])
           (.ret [(.wr .i64 (.quo (.mul (.N 40000) (.mul (.V 2) (.sub (.N 1800) (.V 2)))) (.sub (.N 4050000) (.mul (.V 2) (.sub (.N 1800) (.V 2)))))), (.rem (.mul (.N 40000) (.mul (.V 2) (.sub (.N 1800) (.V 2)))) (.sub (.N 4050000) (.mul (.V 2) (.sub (.N 1800) (.V 2)))))])) 2
          (.sub (.ite (.lt (.wr .i64 (.mul (.N 2) (.V 5))) (.sub (.N 4050000) (.mul (.V 2) (.sub (.N 1800) (.V 2)))))
            (.ret [(.V 4)])
            (.ret [(.wr .i64 (.add (.V 4) (.N 1)))])) 1
           (.ret [(.V 6), (.N 0)])))))) 2
      (.ret [(.V 3)])))) 1
   (.ret [(.V 2)])))
set_option maxRecDepth 100000 in
theorem fxCos_t : runS Try.prog [] [] fxCos_K = fxCos_T := by kernel_rfl
theorem fxCos_ok : ConOk Try.prog fxCos_K (fxCos_T.run noM 0) := con_run follows no_cons fxCos_t rfl 0
theorem cos_to {a : Int} (h0 : 0 ≤ a) (h1 : a < 3600) : ∃ l, fxCos_T.run noM 0 [.i a] = some l ∧ ∃ v, l = [.i v] ∧ -10000 ≤ v ∧ v ≤ 10000 := by
  refine run_to ?_
  unfold fxCos_T
  refine To.pick1 (by simp only [X.den, X.dens, X.denss, D.int_i, D.boo_b, D.str_s, D.rows_l, List.getD_cons_zero, List.getD_cons_succ, List.cons_append, List.nil_append, List.append_nil, List.length_cons, List.length_nil]; rfl) (by simp only [X.den, X.dens, X.denss, D.int_i, D.boo_b, D.str_s, D.rows_l, List.getD_cons_zero, List.getD_cons_succ, List.cons_append, List.nil_append, List.append_nil, List.length_cons, List.length_nil]; rfl) (by simp only [X.den, X.dens, X.denss, D.int_i, D.boo_b, D.str_s, D.rows_l, List.getD_cons_zero, List.getD_cons_succ, List.cons_append, List.nil_append, List.append_nil, List.length_cons, List.length_nil]; rfl) ?_; simp only [List.cons_append, List.nil_append, norm_if]
  generalize hb : a % 3600 = b
  refine To.join (fun l => ∃ v, l = [.i v] ∧ -10000 ≤ v ∧ v ≤ 10000) ?_ fun l hl => ?_
  · refine To.pick1 (by simp only [X.den, X.dens, X.denss, D.int_i, D.boo_b, D.str_s, D.rows_l, List.getD_cons_zero, List.getD_cons_succ, List.cons_append, List.nil_append, List.append_nil, List.length_cons, List.length_nil]; rfl) (by simp only [X.den, X.dens, X.denss, D.int_i, D.boo_b, D.str_s, D.rows_l, List.getD_cons_zero, List.getD_cons_succ, List.cons_append, List.nil_append, List.append_nil, List.length_cons, List.length_nil]; rfl) (by simp only [X.den, X.dens, X.denss, D.int_i, D.boo_b, D.str_s, D.rows_l, List.getD_cons_zero, List.getD_cons_succ, List.cons_append, List.nil_append, List.append_nil, List.length_cons, List.length_nil]; rfl) ?_; simp only [List.cons_append, List.nil_append, norm_if]
    generalize hn : (b + 900) % 3600 = n
    refine To.ite (fun c => ?_) (fun c => ?_)
    · simp only [X.den, X.dens, X.denss, D.int_i, D.boo_b, D.str_s, D.rows_l, List.getD_cons_zero, List.getD_cons_succ, List.cons_append, List.nil_append, List.append_nil, List.length_cons, List.length_nil, decide_eq_true_eq] at c
      obtain ⟨u0, u1⟩ := arch_rng (x := n - 1800) (by omega) (by omega)
      obtain ⟨p1, p2, p3, p4, p5⟩ := arch_half u0 u1
      have r0 := Int.tmod_nonneg (a := 40000 * ((n - 1800) * (1800 - (n - 1800)))) (4050000 - (n - 1800) * (1800 - (n - 1800))) (by omega)
      refine To.join (fun l => ∃ v, l = [.i v, .i 0] ∧ 0 ≤ v ∧ v ≤ 10000) (To.sub (To.no ?_ (To.ret ⟨rfl, To.no ?_ (To.need ?_ (To.sub (To.no ?_ (To.ret ⟨rfl, ?_⟩))))⟩))) ?_
      · simp only [X.den, X.dens, X.denss, D.int_i, D.boo_b, D.str_s, D.rows_l, List.getD_cons_zero, List.getD_cons_succ, List.cons_append, List.nil_append, List.append_nil, List.length_cons, List.length_nil, decide_eq_false_iff_not]; omega
      · simp only [X.den, X.dens, X.denss, D.int_i, D.boo_b, D.str_s, D.rows_l, List.getD_cons_zero, List.getD_cons_succ, List.cons_append, List.nil_append, List.append_nil, List.length_cons, List.length_nil]
      · simp only [X.den, X.dens, X.denss, D.int_i, D.boo_b, D.str_s, D.rows_l, List.getD_cons_zero, List.getD_cons_succ, List.cons_append, List.nil_append, List.append_nil, List.length_cons, List.length_nil, Bool.not_eq_true', decide_eq_false_iff_not]; omega
      · simp only [X.den, X.dens, X.denss, D.int_i, D.boo_b, D.str_s, D.rows_l, List.getD_cons_zero, List.getD_cons_succ, List.cons_append, List.nil_append, List.append_nil, List.length_cons, List.length_nil, decide_eq_false_iff_not]; exact p1
      · simp only [X.den, X.dens, X.denss, D.int_i, D.boo_b, D.str_s, D.rows_l, List.getD_cons_zero, List.getD_cons_succ, List.cons_append, List.nil_append, List.append_nil, List.length_cons, List.length_nil]
        rw [wr64 (by omega) (by omega)]
        refine To.sub (To.ite (fun c => To.ret ⟨rfl, To.ret ⟨rfl, ?_⟩⟩) fun c => To.ret ⟨rfl, To.ret ⟨rfl, ?_⟩⟩)
        · simp only [X.den, X.dens, X.denss, D.int_i, D.boo_b, D.str_s, D.rows_l, List.getD_cons_zero, List.getD_cons_succ, List.cons_append, List.nil_append, List.append_nil, List.length_cons, List.length_nil]; exact ⟨_, rfl, p2, p3⟩
        · simp only [X.den, X.dens, X.denss, D.int_i, D.boo_b, D.str_s, D.rows_l, List.getD_cons_zero, List.getD_cons_succ, List.cons_append, List.nil_append, List.append_nil, List.length_cons, List.length_nil, decide_eq_false_iff_not] at c ⊢
          rw [wr64 (by omega) (by omega)] at c
          have := p5 c
          rw [wr64 (by omega) (by omega)]
          exact ⟨_, rfl, by omega, by omega⟩
      rintro l ⟨v, rfl, v0, v1⟩
      refine To.ret ⟨rfl, ?_⟩
      simp only [X.den, X.dens, X.denss, D.int_i, D.boo_b, D.str_s, D.rows_l, List.getD_cons_zero, List.getD_cons_succ, List.cons_append, List.nil_append, List.append_nil, List.length_cons, List.length_nil]
      rw [wr64 (by omega) (by omega)]
      exact ⟨_, rfl, by omega, by omega⟩
    · simp only [X.den, X.dens, X.denss, D.int_i, D.boo_b, D.str_s, D.rows_l, List.getD_cons_zero, List.getD_cons_succ, List.cons_append, List.nil_append, List.append_nil, List.length_cons, List.length_nil, decide_eq_false_iff_not] at c
      obtain ⟨u0, u1⟩ := arch_rng (x := n) (by omega) (by omega)
      obtain ⟨p1, p2, p3, p4, p5⟩ := arch_half u0 u1
      have r0 := Int.tmod_nonneg (a := 40000 * ((n) * (1800 - (n)))) (4050000 - (n) * (1800 - (n))) (by omega)
      refine To.join (fun l => ∃ v, l = [.i v, .i 0] ∧ 0 ≤ v ∧ v ≤ 10000) (To.sub (To.no ?_ (To.ret ⟨rfl, To.no ?_ (To.need ?_ (To.sub (To.no ?_ (To.ret ⟨rfl, ?_⟩))))⟩))) ?_
      · simp only [X.den, X.dens, X.denss, D.int_i, D.boo_b, D.str_s, D.rows_l, List.getD_cons_zero, List.getD_cons_succ, List.cons_append, List.nil_append, List.append_nil, List.length_cons, List.length_nil, decide_eq_false_iff_not]; omega
      · simp only [X.den, X.dens, X.denss, D.int_i, D.boo_b, D.str_s, D.rows_l, List.getD_cons_zero, List.getD_cons_succ, List.cons_append, List.nil_append, List.append_nil, List.length_cons, List.length_nil]
      · simp only [X.den, X.dens, X.denss, D.int_i, D.boo_b, D.str_s, D.rows_l, List.getD_cons_zero, List.getD_cons_succ, List.cons_append, List.nil_append, List.append_nil, List.length_cons, List.length_nil, Bool.not_eq_true', decide_eq_false_iff_not]; omega
      · simp only [X.den, X.dens, X.denss, D.int_i, D.boo_b, D.str_s, D.rows_l, List.getD_cons_zero, List.getD_cons_succ, List.cons_append, List.nil_append, List.append_nil, List.length_cons, List.length_nil, decide_eq_false_iff_not]; exact p1
      · simp only [X.den, X.dens, X.denss, D.int_i, D.boo_b, D.str_s, D.rows_l, List.getD_cons_zero, List.getD_cons_succ, List.cons_append, List.nil_append, List.append_nil, List.length_cons, List.length_nil]
        rw [wr64 (by omega) (by omega)]
        refine To.sub (To.ite (fun c => To.ret ⟨rfl, To.ret ⟨rfl, ?_⟩⟩) fun c => To.ret ⟨rfl, To.ret ⟨rfl, ?_⟩⟩)
        · simp only [X.den, X.dens, X.denss, D.int_i, D.boo_b, D.str_s, D.rows_l, List.getD_cons_zero, List.getD_cons_succ, List.cons_append, List.nil_append, List.append_nil, List.length_cons, List.length_nil]; exact ⟨_, rfl, p2, p3⟩
        · simp only [X.den, X.dens, X.denss, D.int_i, D.boo_b, D.str_s, D.rows_l, List.getD_cons_zero, List.getD_cons_succ, List.cons_append, List.nil_append, List.append_nil, List.length_cons, List.length_nil, decide_eq_false_iff_not] at c ⊢
          rw [wr64 (by omega) (by omega)] at c
          have := p5 c
          rw [wr64 (by omega) (by omega)]
          exact ⟨_, rfl, by omega, by omega⟩
      rintro l ⟨v, rfl, v0, v1⟩
      refine To.ret ⟨rfl, ?_⟩
      simp only [X.den, X.dens, X.denss, D.int_i, D.boo_b, D.str_s, D.rows_l, List.getD_cons_zero, List.getD_cons_succ, List.cons_append, List.nil_append, List.append_nil, List.length_cons, List.length_nil]
      exact ⟨_, rfl, by omega, by omega⟩
  · obtain ⟨v, rfl, v0, v1⟩ := hl
    refine To.ret ?_
    simp only [X.den, X.dens, X.denss, D.int_i, D.boo_b, D.str_s, D.rows_l, List.getD_cons_zero, List.getD_cons_succ, List.cons_append, List.nil_append, List.append_nil, List.length_cons, List.length_nil]
    exact ⟨_, rfl, v0, v1⟩
end Go.Proofs.Ytdkamfkpmplaoaa
