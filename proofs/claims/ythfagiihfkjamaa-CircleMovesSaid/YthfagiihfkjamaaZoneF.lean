/- Distances of a circle. -/
import Derived.Test.YthfagiihfkjamaaCirF
import Derived.Test.YthfagiihfkjamaaBdF
set_option linter.unusedVariables false
set_option linter.unusedSimpArgs false
namespace Go.Proofs.Ythfagiihfkjamaa
open Go.RowKit Fx
def fxFar_K : Con := ⟨40, [.val true [.int .i64, .int .i64, .int .i64, .int .i64], .val true [.int .i64, .int .i64, .int .i64, .int .i64, .int .i64]], [.val false [.int .i64]], [some (-50000, 50000), some (-50000, 50000), some (0, 5000), some (0, 5000), some (-50000, 50000), some (-50000, 50000), some (0, 900), none, some (1, 2)]⟩
def fxFar_T : T (List X) :=
  (.sub (.sub (.sub (.ite (.lt (.V 3) (.V 2))
     (.ret [(.B true)])
     (.ret [(.B false)])) 1
    (.ite (.V 9)
     (.ret [(.N 65)])
     (.ret [(.N 0)]))) 1
   (.ite (.eq (.V 9) (.N 0))
    (.ret [(.B true)])
    (.ret [(.B false)]))) 1
  (.ite (.V 9)
   (.ret [(.add (.add (.N 0) (.mul (.add (.mx (.sub (.V 4) (.V 0)) (.sub (.V 0) (.V 4))) (.V 6)) (.add (.mx (.sub (.V 4) (.V 0)) (.sub (.V 0) (.V 4))) (.V 6)))) (.mul (.add (.mx (.sub (.V 5) (.V 1)) (.sub (.V 1) (.V 5))) (.V 6)) (.add (.mx (.sub (.V 5) (.V 1)) (.sub (.V 1) (.V 5))) (.V 6))))])
   (.ret [(.N (-1))])))
set_option maxRecDepth 100000 in
theorem fxFar_t : runS Try.prog [] [] fxFar_K = fxFar_T := by kernel_rfl
noncomputable def fxFarR : List D → Option (List D) := runB fxFar_K.bd noM 0 fxFar_T
theorem fxFar_ok : ConOk Try.prog fxFar_K fxFarR := con_runB follows no_cons fxFar_t 0
theorem fxFar_to {cx cy ye re px py b t s : Int} (hb : BdAll [.i cx, .i cy, .i ye, .i re, .i px, .i py, .i b, .i t, .i s] fxFar_K.bd) (h : ye ≤ re) : fxFarR [.i cx, .i cy, .i ye, .i re, .i px, .i py, .i b, .i t, .i s] = some [.i (0 + (max (px - cx) (cx - px) + b) * (max (px - cx) (cx - px) + b) + (max (py - cy) (cy - py) + b) * (max (py - cy) (cy - py) + b))] := by
  have hB := hb.ok
  simp only [BdAll, fxFar_K, D.int_i] at hb
  unfold fxFarR runB
  rw [if_pos hB]
  suffices H : fxFar_T.To noM 0 [.i cx, .i cy, .i ye, .i re, .i px, .i py, .i b, .i t, .i s] (fun xs ρ' => X.dens ρ' xs = [.i (0 + (max (px - cx) (cx - px) + b) * (max (px - cx) (cx - px) + b) + (max (py - cy) (cy - py) + b) * (max (py - cy) (cy - py) + b))]) by
    obtain ⟨l, h1, h2⟩ := run_to (R := fun l => l = _) H
    rw [h1, h2]
  unfold fxFar_T
  refine To.join (fun l => l = [.b true]) ?_ ?_
  · refine To.join (fun l => l = [.i 0]) (To.join (fun l => l = [.b false]) (To.no (by simp only [X.den, X.dens, X.denss, D.int_i, D.boo_b, D.str_s, D.rows_l, List.getD_cons_zero, List.getD_cons_succ, List.cons_append, List.nil_append, List.append_nil, List.length_cons, List.length_nil, decide_eq_false_iff_not]; omega) (To.ret ⟨rfl, by simp only [X.den, X.dens, X.denss, D.int_i, D.boo_b, D.str_s, D.rows_l, List.getD_cons_zero, List.getD_cons_succ, List.cons_append, List.nil_append, List.append_nil, List.length_cons, List.length_nil]⟩)) ?_) ?_
    · rintro l rfl
      simp only [List.cons_append, List.nil_append]
      exact To.no rfl (To.ret ⟨rfl, by simp only [X.den, X.dens, X.denss, D.int_i, D.boo_b, D.str_s, D.rows_l, List.getD_cons_zero, List.getD_cons_succ, List.cons_append, List.nil_append, List.append_nil, List.length_cons, List.length_nil]⟩)
    · rintro l rfl
      simp only [List.cons_append, List.nil_append]
      exact To.yes rfl (To.ret ⟨rfl, by simp only [X.den, X.dens, X.denss, D.int_i, D.boo_b, D.str_s, D.rows_l, List.getD_cons_zero, List.getD_cons_succ, List.cons_append, List.nil_append, List.append_nil, List.length_cons, List.length_nil]⟩)
  rintro l rfl
  simp only [List.cons_append, List.nil_append]
  exact To.yes rfl (To.ret (by simp only [X.den, X.dens, X.denss, D.int_i, D.boo_b, D.str_s, D.rows_l, List.getD_cons_zero, List.getD_cons_succ, List.cons_append, List.nil_append, List.append_nil, List.length_cons, List.length_nil]))
def fxClose_K : Con := ⟨42, [.val true [.int .i64, .int .i64, .int .i64, .int .i64], .val true [.int .i64, .int .i64, .int .i64, .int .i64, .int .i64]], [.val false [.int .i64]], [some (-50000, 50000), some (-50000, 50000), some (0, 5000), some (0, 5000), some (-50000, 50000), some (-50000, 50000), some (0, 900), none, some (1, 2)]⟩
def fxClose_T : T (List X) :=
  (.sub (.sub (.sub (.ite (.lt (.V 3) (.V 2))
     (.ret [(.B true)])
     (.ret [(.B false)])) 1
    (.ite (.V 9)
     (.ret [(.N 65)])
     (.ret [(.N 0)]))) 1
   (.ite (.eq (.V 9) (.N 0))
    (.ret [(.B true)])
    (.ret [(.B false)]))) 1
  (.ite (.V 9)
   (.ret [(.add (.add (.N 0) (.mul (.mx (.N 0) (.sub (.mx (.sub (.V 4) (.V 0)) (.sub (.V 0) (.V 4))) (.V 6))) (.mx (.N 0) (.sub (.mx (.sub (.V 4) (.V 0)) (.sub (.V 0) (.V 4))) (.V 6))))) (.mul (.mx (.N 0) (.sub (.mx (.sub (.V 5) (.V 1)) (.sub (.V 1) (.V 5))) (.V 6))) (.mx (.N 0) (.sub (.mx (.sub (.V 5) (.V 1)) (.sub (.V 1) (.V 5))) (.V 6)))))])
   (.ret [(.N (-1))])))
set_option maxRecDepth 100000 in
theorem fxClose_t : runS Try.prog [] [] fxClose_K = fxClose_T := by kernel_rfl
noncomputable def fxCloseR : List D → Option (List D) := runB fxClose_K.bd noM 0 fxClose_T
theorem fxClose_ok : ConOk Try.prog fxClose_K fxCloseR := con_runB follows no_cons fxClose_t 0
theorem fxClose_to {cx cy ye re px py b t s : Int} (hb : BdAll [.i cx, .i cy, .i ye, .i re, .i px, .i py, .i b, .i t, .i s] fxClose_K.bd) (h : ye ≤ re) : fxCloseR [.i cx, .i cy, .i ye, .i re, .i px, .i py, .i b, .i t, .i s] = some [.i (0 + max 0 (max (px - cx) (cx - px) - b) * max 0 (max (px - cx) (cx - px) - b) + max 0 (max (py - cy) (cy - py) - b) * max 0 (max (py - cy) (cy - py) - b))] := by
  have hB := hb.ok
  simp only [BdAll, fxClose_K, D.int_i] at hb
  unfold fxCloseR runB
  rw [if_pos hB]
  suffices H : fxClose_T.To noM 0 [.i cx, .i cy, .i ye, .i re, .i px, .i py, .i b, .i t, .i s] (fun xs ρ' => X.dens ρ' xs = [.i (0 + max 0 (max (px - cx) (cx - px) - b) * max 0 (max (px - cx) (cx - px) - b) + max 0 (max (py - cy) (cy - py) - b) * max 0 (max (py - cy) (cy - py) - b))]) by
    obtain ⟨l, h1, h2⟩ := run_to (R := fun l => l = _) H
    rw [h1, h2]
  unfold fxClose_T
  refine To.join (fun l => l = [.b true]) ?_ ?_
  · refine To.join (fun l => l = [.i 0]) (To.join (fun l => l = [.b false]) (To.no (by simp only [X.den, X.dens, X.denss, D.int_i, D.boo_b, D.str_s, D.rows_l, List.getD_cons_zero, List.getD_cons_succ, List.cons_append, List.nil_append, List.append_nil, List.length_cons, List.length_nil, decide_eq_false_iff_not]; omega) (To.ret ⟨rfl, by simp only [X.den, X.dens, X.denss, D.int_i, D.boo_b, D.str_s, D.rows_l, List.getD_cons_zero, List.getD_cons_succ, List.cons_append, List.nil_append, List.append_nil, List.length_cons, List.length_nil]⟩)) ?_) ?_
    · rintro l rfl
      simp only [List.cons_append, List.nil_append]
      exact To.no rfl (To.ret ⟨rfl, by simp only [X.den, X.dens, X.denss, D.int_i, D.boo_b, D.str_s, D.rows_l, List.getD_cons_zero, List.getD_cons_succ, List.cons_append, List.nil_append, List.append_nil, List.length_cons, List.length_nil]⟩)
    · rintro l rfl
      simp only [List.cons_append, List.nil_append]
      exact To.yes rfl (To.ret ⟨rfl, by simp only [X.den, X.dens, X.denss, D.int_i, D.boo_b, D.str_s, D.rows_l, List.getD_cons_zero, List.getD_cons_succ, List.cons_append, List.nil_append, List.append_nil, List.length_cons, List.length_nil]⟩)
  rintro l rfl
  simp only [List.cons_append, List.nil_append]
  exact To.yes rfl (To.ret (by simp only [X.den, X.dens, X.denss, D.int_i, D.boo_b, D.str_s, D.rows_l, List.getD_cons_zero, List.getD_cons_succ, List.cons_append, List.nil_append, List.append_nil, List.length_cons, List.length_nil]))
def fxWorst_K : Con := ⟨44, [.val true [.int .i64, .int .i64, .int .i64, .int .i64], .val true [.int .i64, .int .i64, .int .i64, .int .i64, .int .i64]], [.val false [.int .i64]], [some (-50000, 50000), some (-50000, 50000), some (0, 5000), some (0, 5000), some (-50000, 50000), some (-50000, 50000), some (0, 900), none, some (1, 2)]⟩
def fxWorst_T : T (List X) :=
  (.sub (.sub (.sub (.sub (.ite (.lt (.V 3) (.V 2))
      (.ret [(.B true)])
      (.ret [(.B false)])) 1
     (.ite (.V 9)
      (.ret [(.N 65)])
      (.ret [(.N 0)]))) 1
    (.ite (.eq (.V 9) (.N 0))
     (.ret [(.B true)])
     (.ret [(.B false)]))) 1
   (.ite (.V 9)
    (.ret [(.add (.add (.N 0) (.mul (.add (.mx (.sub (.V 4) (.V 0)) (.sub (.V 0) (.V 4))) (.V 6)) (.add (.mx (.sub (.V 4) (.V 0)) (.sub (.V 0) (.V 4))) (.V 6)))) (.mul (.add (.mx (.sub (.V 5) (.V 1)) (.sub (.V 1) (.V 5))) (.V 6)) (.add (.mx (.sub (.V 5) (.V 1)) (.sub (.V 1) (.V 5))) (.V 6))))])
    (.ret [(.N (-1))]))) 1
  (.sub (.sub (.ite (.eq (.V 9) (.N (-1)))
     (.ret [(.N 1), (.N 3)])
     (.ite (.lt (.add (.N 0) (.mul (.V 2) (.V 2))) (.V 9))
      (.ite (.lt (.add (.N 0) (.mul (.V 3) (.V 3))) (.V 9))
       (.ret [(.N 0), (.N 0)])
       (.ret [(.N 1), (.N 2)]))
      (.ret [(.N 1), (.N 1)]))) 2
    (.ite (.eq (.V 10) (.N 0))
     (.ret [(.N 3)])
     (.ret [(.V 11)]))) 1
   (.ret [(.V 10)])))
set_option maxRecDepth 100000 in
theorem fxWorst_t : runS Try.prog [] [] fxWorst_K = fxWorst_T := by kernel_rfl
noncomputable def fxWorstR : List D → Option (List D) := runB fxWorst_K.bd noM 0 fxWorst_T
theorem fxWorst_ok : ConOk Try.prog fxWorst_K fxWorstR := con_runB follows no_cons fxWorst_t 0
/-- the zone of a square -/
def zoneF (ye re d : Int) : Int := if d = -1 then 3 else if 0 + ye * ye < d then (if 0 + re * re < d then 3 else 2) else 1
theorem fxWorst_to {cx cy ye re px py b t s : Int} (hb : BdAll [.i cx, .i cy, .i ye, .i re, .i px, .i py, .i b, .i t, .i s] fxWorst_K.bd) (h : ye ≤ re) : fxWorstR [.i cx, .i cy, .i ye, .i re, .i px, .i py, .i b, .i t, .i s] = some [.i (zoneF ye re (0 + (max (px - cx) (cx - px) + b) * (max (px - cx) (cx - px) + b) + (max (py - cy) (cy - py) + b) * (max (py - cy) (cy - py) + b)))] := by
  have hB := hb.ok
  simp only [BdAll, fxWorst_K, D.int_i] at hb
  unfold fxWorstR runB
  rw [if_pos hB]
  suffices H : fxWorst_T.To noM 0 [.i cx, .i cy, .i ye, .i re, .i px, .i py, .i b, .i t, .i s] (fun xs ρ' => X.dens ρ' xs = [.i (zoneF ye re (0 + (max (px - cx) (cx - px) + b) * (max (px - cx) (cx - px) + b) + (max (py - cy) (cy - py) + b) * (max (py - cy) (cy - py) + b)))]) by
    obtain ⟨l, h1, h2⟩ := run_to (R := fun l => l = _) H
    rw [h1, h2]
  unfold fxWorst_T
  refine To.join (fun l => l = [.i (0 + (max (px - cx) (cx - px) + b) * (max (px - cx) (cx - px) + b) + (max (py - cy) (cy - py) + b) * (max (py - cy) (cy - py) + b))]) ?_ ?_
  · refine To.join (fun l => l = [.b true]) ?_ ?_
    · refine To.join (fun l => l = [.i 0]) (To.join (fun l => l = [.b false]) (To.no (by simp only [X.den, X.dens, X.denss, D.int_i, D.boo_b, D.str_s, D.rows_l, List.getD_cons_zero, List.getD_cons_succ, List.cons_append, List.nil_append, List.append_nil, List.length_cons, List.length_nil, decide_eq_false_iff_not]; omega) (To.ret ⟨rfl, by simp only [X.den, X.dens, X.denss, D.int_i, D.boo_b, D.str_s, D.rows_l, List.getD_cons_zero, List.getD_cons_succ, List.cons_append, List.nil_append, List.append_nil, List.length_cons, List.length_nil]⟩)) ?_) ?_
      · rintro l rfl
        simp only [List.cons_append, List.nil_append]
        exact To.no rfl (To.ret ⟨rfl, by simp only [X.den, X.dens, X.denss, D.int_i, D.boo_b, D.str_s, D.rows_l, List.getD_cons_zero, List.getD_cons_succ, List.cons_append, List.nil_append, List.append_nil, List.length_cons, List.length_nil]⟩)
      · rintro l rfl
        simp only [List.cons_append, List.nil_append]
        exact To.yes rfl (To.ret ⟨rfl, by simp only [X.den, X.dens, X.denss, D.int_i, D.boo_b, D.str_s, D.rows_l, List.getD_cons_zero, List.getD_cons_succ, List.cons_append, List.nil_append, List.append_nil, List.length_cons, List.length_nil]⟩)
    rintro l rfl
    simp only [List.cons_append, List.nil_append]
    exact To.yes rfl (To.ret ⟨rfl, by simp only [X.den, X.dens, X.denss, D.int_i, D.boo_b, D.str_s, D.rows_l, List.getD_cons_zero, List.getD_cons_succ, List.cons_append, List.nil_append, List.append_nil, List.length_cons, List.length_nil]⟩)
  rintro l rfl
  simp only [List.cons_append, List.nil_append]
  generalize 0 + (max (px - cx) (cx - px) + b) * (max (px - cx) (cx - px) + b) + (max (py - cy) (cy - py) + b) * (max (py - cy) (cy - py) + b) = d
  refine To.join (fun l => l = [.i (zoneF ye re d)]) ?_ ?_
  · refine To.join (fun l => ∃ p q : Int, l = [.i p, .i q] ∧ (if p = 0 then 3 else q) = zoneF ye re d) (To.ite (fun c => To.ret ⟨rfl, 1, 3, by simp only [X.den, X.dens, X.denss, D.int_i, D.boo_b, D.str_s, D.rows_l, List.getD_cons_zero, List.getD_cons_succ, List.cons_append, List.nil_append, List.append_nil, List.length_cons, List.length_nil], ?_⟩) (fun c => To.ite (fun c2 => To.ite (fun c3 => To.ret ⟨rfl, 0, 0, by simp only [X.den, X.dens, X.denss, D.int_i, D.boo_b, D.str_s, D.rows_l, List.getD_cons_zero, List.getD_cons_succ, List.cons_append, List.nil_append, List.append_nil, List.length_cons, List.length_nil], ?_⟩) (fun c3 => To.ret ⟨rfl, 1, 2, by simp only [X.den, X.dens, X.denss, D.int_i, D.boo_b, D.str_s, D.rows_l, List.getD_cons_zero, List.getD_cons_succ, List.cons_append, List.nil_append, List.append_nil, List.length_cons, List.length_nil], ?_⟩)) (fun c2 => To.ret ⟨rfl, 1, 1, by simp only [X.den, X.dens, X.denss, D.int_i, D.boo_b, D.str_s, D.rows_l, List.getD_cons_zero, List.getD_cons_succ, List.cons_append, List.nil_append, List.append_nil, List.length_cons, List.length_nil], ?_⟩))) ?_
    · simp only [X.den, X.dens, X.denss, D.int_i, D.boo_b, D.str_s, D.rows_l, List.getD_cons_zero, List.getD_cons_succ, List.cons_append, List.nil_append, List.append_nil, List.length_cons, List.length_nil, decide_eq_true_eq] at c
      simp only [zoneF, if_pos c]; decide
    · simp only [X.den, X.dens, X.denss, D.int_i, D.boo_b, D.str_s, D.rows_l, List.getD_cons_zero, List.getD_cons_succ, List.cons_append, List.nil_append, List.append_nil, List.length_cons, List.length_nil, decide_eq_true_eq, decide_eq_false_iff_not] at c c2 c3
      simp only [zoneF, if_neg c, if_pos c2, if_pos c3, if_true]
    · simp only [X.den, X.dens, X.denss, D.int_i, D.boo_b, D.str_s, D.rows_l, List.getD_cons_zero, List.getD_cons_succ, List.cons_append, List.nil_append, List.append_nil, List.length_cons, List.length_nil, decide_eq_true_eq, decide_eq_false_iff_not] at c c2 c3
      simp only [zoneF, if_neg c, if_pos c2, if_neg c3]; decide
    · simp only [X.den, X.dens, X.denss, D.int_i, D.boo_b, D.str_s, D.rows_l, List.getD_cons_zero, List.getD_cons_succ, List.cons_append, List.nil_append, List.append_nil, List.length_cons, List.length_nil, decide_eq_false_iff_not] at c c2
      simp only [zoneF, if_neg c, if_neg c2]; decide
    rintro l ⟨p, q, rfl, e⟩
    simp only [List.cons_append, List.nil_append]
    refine To.ite (fun c => To.ret ⟨rfl, ?_⟩) (fun c => To.ret ⟨rfl, ?_⟩)
    · simp only [X.den, X.dens, X.denss, D.int_i, D.boo_b, D.str_s, D.rows_l, List.getD_cons_zero, List.getD_cons_succ, List.cons_append, List.nil_append, List.append_nil, List.length_cons, List.length_nil, decide_eq_true_eq] at c ⊢
      rw [if_pos c] at e
      rw [e]
    · simp only [X.den, X.dens, X.denss, D.int_i, D.boo_b, D.str_s, D.rows_l, List.getD_cons_zero, List.getD_cons_succ, List.cons_append, List.nil_append, List.append_nil, List.length_cons, List.length_nil, decide_eq_false_iff_not] at c ⊢
      rw [if_neg c] at e
      rw [e]
  rintro l rfl
  refine To.ret ?_
  simp only [X.den, X.dens, X.denss, D.int_i, D.boo_b, D.str_s, D.rows_l, List.getD_cons_zero, List.getD_cons_succ, List.cons_append, List.nil_append, List.append_nil, List.length_cons, List.length_nil]
end Go.Proofs.Ythfagiihfkjamaa
