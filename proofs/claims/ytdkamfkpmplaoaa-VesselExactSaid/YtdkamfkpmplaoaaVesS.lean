/- What the source gives of hulls, motions and forces. -/
import Derived.Test.YtdkamfkpmplaoaaVesR
set_option linter.unusedVariables false
set_option linter.unusedSimpArgs false
namespace Go.Proofs.Ytdkamfkpmplaoaa
open Go.RowKit Fx
def srcList_H : List Hint := [
  ⟨524189, 2, [], ⟨[.ptr 0 0, .und, .con (.slice none 0 0), .var 1, .und, .und, .und, .int .i64 (.N 12), .int .i64 (.V 5), .und, .und, .und, .und, .und, .und, .und, .und, .und, .und], [.fix [.var 2, .int .i64 (.V 4)] true, .rows [.int .i64] (.V 2) 1], 6, 3, [none, none, none, none, none, some (0, 4611686018427387904)], [], [⟨0, [.int .i64], (.V 0)⟩, ⟨2, [.int .i64], (.V 3)⟩]⟩⟩]
def srcList_K : Con := ⟨131, [.ptr [.sl [.int .i64], .int .i64]], [.val false [.sl [.int .i64]]], []⟩
def srcList_T : T (List X) :=
  (.loop [(.rows [[(.N 0)], [(.N 0)], [(.N 0)], [(.N 0)], [(.N 0)], [(.N 0)], [(.N 0)], [(.N 0)], [(.N 0)], [(.N 0)], [(.N 0)], [(.N 0)]]), (.V 0), (.V 1), (.N 0)]
  (.ite (.lt (.V 5) (.N 12))
   (.call 10 [(.V 3), (.V 4), (.N 6)] 3
    (.need (.and (.not (.lt (.V 6) (.N 0))) (.lt (.V 6) (.N 6)))
     (.need (.lt (.V 5) (.len (.V 2)))
      (.ret (true, [(.put (.V 2) (.V 5) 0 (.at (.rows [[(.N 0)], [(.N 100)], [(.N (-300))], [(.N 700)], [(.N (-1000))], [(.N 1000)]]) (.V 6) 0)), (.V 7), (.V 8), (.add (.V 5) (.N 1))])))))
   (.ret (false, [(.V 2), (.V 3), (.V 4)]))) 3
  (.ret [(.V 2), (.V 3), (.V 4)]))
set_option maxRecDepth 100000 in
theorem srcList_t : runS Try.prog [srcN_K.to []] [(131, srcList_H)] srcList_K = srcList_T := by kernel_rfl
def srcHull_K : Con := ⟨72, [.ptr [.sl [.int .i64], .int .i64]], [.val true [.sl [.int .i64], .sl [.int .i64], .sl [.int .i64], .sl [.int .i64], .sl [.int .i64], .sl [.int .i64], .sl [.int .i64], .sl [.int .i64], .sl [.int .i64], .int .i64, .int .i64, .int .i64, .int .i64]], []⟩
def srcHull_T : T (List X) :=
  (.call 131 [(.V 0), (.V 1)] 3
  (.call 131 [(.V 3), (.V 4)] 3
   (.call 131 [(.V 6), (.V 7)] 3
    (.call 131 [(.V 9), (.V 10)] 3
     (.call 131 [(.V 12), (.V 13)] 3
      (.call 131 [(.V 15), (.V 16)] 3
       (.call 131 [(.V 18), (.V 19)] 3
        (.call 131 [(.V 21), (.V 22)] 3
         (.call 131 [(.V 24), (.V 25)] 3
          (.call 10 [(.V 27), (.V 28), (.N 5)] 3
           (.need (.and (.not (.lt (.V 29) (.N 0))) (.lt (.V 29) (.N 5)))
            (.call 10 [(.V 30), (.V 31), (.N 4)] 3
             (.need (.and (.not (.lt (.V 32) (.N 0))) (.lt (.V 32) (.N 4)))
              (.call 10 [(.V 33), (.V 34), (.N 4)] 3
               (.need (.and (.not (.lt (.V 35) (.N 0))) (.lt (.V 35) (.N 4)))
                (.call 10 [(.V 36), (.V 37), (.N 4)] 3
                 (.need (.and (.not (.lt (.V 38) (.N 0))) (.lt (.V 38) (.N 4)))
                  (.ret [(.V 2), (.V 5), (.V 8), (.V 11), (.V 14), (.V 17), (.V 20), (.V 23), (.V 26), (.at (.rows [[(.N 1000)], [(.N 1)], [(.N 30)], [(.N 5000)], [(.N 1000000)]]) (.V 29) 0), (.at (.rows [[(.N 100000)], [(.N 1)], [(.N 500)], [(.N 1073741824)]]) (.V 32) 0), (.mn (.at (.rows [[(.N 0)], [(.N 1)], [(.wr .i64 (.quo (.at (.rows [[(.N 1000)], [(.N 1)], [(.N 30)], [(.N 5000)], [(.N 1000000)]]) (.V 29) 0) (.N 10)))], [(.at (.rows [[(.N 1000)], [(.N 1)], [(.N 30)], [(.N 5000)], [(.N 1000000)]]) (.V 29) 0)]]) (.V 35) 0) (.at (.rows [[(.N 1000)], [(.N 1)], [(.N 30)], [(.N 5000)], [(.N 1000000)]]) (.V 29) 0)), (.mn (.at (.rows [[(.N 0)], [(.N 1)], [(.wr .i64 (.quo (.at (.rows [[(.N 100000)], [(.N 1)], [(.N 500)], [(.N 1073741824)]]) (.V 32) 0) (.N 10)))], [(.at (.rows [[(.N 100000)], [(.N 1)], [(.N 500)], [(.N 1073741824)]]) (.V 32) 0)]]) (.V 38) 0) (.at (.rows [[(.N 100000)], [(.N 1)], [(.N 500)], [(.N 1073741824)]]) (.V 32) 0)), (.V 39), (.V 40)]))))))))))))))))))
set_option maxRecDepth 100000 in
theorem srcHull_t : runS Try.prog [srcN_K.to [], srcList_K.to []] [] srcHull_K = srcHull_T := by kernel_rfl
def srcMotion_K : Con := ⟨88, [.ptr [.sl [.int .i64], .int .i64]], [.val true [.int .i64, .int .i64, .int .i64, .int .i64, .int .i64, .int .i64, .int .i64]], []⟩
def srcMotion_T : T (List X) :=
  (.call 10 [(.V 0), (.V 1), (.N 50)] 3
  (.call 10 [(.V 3), (.V 4), (.N 5)] 3
   (.need (.and (.not (.lt (.V 5) (.N 0))) (.lt (.V 5) (.N 5)))
    (.call 10 [(.V 6), (.V 7), (.N 4)] 3
     (.need (.and (.not (.lt (.V 8) (.N 0))) (.lt (.V 8) (.N 4)))
      (.call 10 [(.V 9), (.V 10), (.N 360000)] 3
       (.call 10 [(.V 12), (.V 13), (.N 6001)] 3
        (.call 10 [(.V 15), (.V 16), (.N 1801)] 3
         (.call 10 [(.V 18), (.V 19), (.N 1001)] 3
          (.ret [(.V 2), (.at (.rows [[(.N 0)], [(.N 50)], [(.N (-50))], [(.N 12345)], [(.N (-99999))]]) (.V 5) 0), (.at (.rows [[(.N 0)], [(.N 1)], [(.N (-149))], [(.N 700)]]) (.V 8) 0), (.V 11), (.wr .i64 (.add (.N (-3000)) (.V 14))), (.wr .i64 (.add (.N (-900)) (.V 17))), (.wr .i64 (.add (.N (-500)) (.V 20))), (.V 21), (.V 22)]))))))))))
set_option maxRecDepth 100000 in
theorem srcMotion_t : runS Try.prog [srcN_K.to []] [] srcMotion_K = srcMotion_T := by kernel_rfl
def srcForce_K : Con := ⟨98, [.ptr [.sl [.int .i64], .int .i64]], [.val true [.int .i64, .int .i64, .int .i64]], []⟩
def srcForce_T : T (List X) :=
  (.call 10 [(.V 0), (.V 1), (.N 121)] 3
  (.call 10 [(.V 3), (.V 4), (.N 121)] 3
   (.call 10 [(.V 6), (.V 7), (.N 1801)] 3
    (.ret [(.wr .i64 (.add (.N (-60)) (.V 2))), (.wr .i64 (.add (.N (-60)) (.V 5))), (.wr .i64 (.add (.N (-900)) (.V 8))), (.V 9), (.V 10)]))))
set_option maxRecDepth 100000 in
theorem srcForce_t : runS Try.prog [srcN_K.to []] [] srcForce_K = srcForce_T := by kernel_rfl
theorem srcList_ok : ConOk Try.prog srcList_K (srcList_T.run srcM 20) := con_run follows (one_con (srcN_ok.to _) no_cons) srcList_t rfl 20
noncomputable def srcHM : Models := Models.on srcN_K.f (srcN_T.run noM 0) (Models.on srcList_K.f (srcList_T.run srcM 20) noM)
theorem srcHull_ok : ConOk Try.prog srcHull_K (srcHull_T.run srcHM 0) := con_run follows (one_con (srcN_ok.to _) (one_con (srcList_ok.to _) no_cons)) srcHull_t rfl 0
theorem srcMotion_ok : ConOk Try.prog srcMotion_K (srcMotion_T.run srcM 0) := con_run follows (one_con (srcN_ok.to _) no_cons) srcMotion_t rfl 0
theorem srcForce_ok : ConOk Try.prog srcForce_K (srcForce_T.run srcM 0) := con_run follows (one_con (srcN_ok.to _) no_cons) srcForce_t rfl 0
theorem put_rows {d : D} {i : Int} {c : Nat} {x : D} : (d.put i c x).rows = d.rows.set i.toNat ((d.rows.getD i.toNat []).set c x) := rfl
/-- the list of a curve: twelve factors -/
theorem srcList_to {rows : List (List D)} {at_ : Int} (h : SrcOk rows at_) : ∃ l, srcList_T.run srcM 20 [.l rows, .i at_] = some l ∧ ∃ d at', l = [d, .l rows, .i at'] ∧ FacOk d ∧ SrcOk rows at' := by
  refine run_to ?_
  unfold srcList_T
  refine To.loop (fun m l => ∃ (at_ k : Int) (d : D), l = [d, .l rows, .i at_, .i k] ∧ SrcOk rows at_ ∧ FacOk d ∧ (∀ row ∈ d.rows, row.length = 1) ∧ 0 ≤ k ∧ (m : Int) + k = 12) (fun l => ∃ (at_ : Int) (d : D), l = [d, .l rows, .i at_] ∧ SrcOk rows at_ ∧ FacOk d) 12 (by decide) ?_ ?_ ?_
  · refine ⟨at_, 0, _, by simp only [X.den, X.dens, X.denss, D.int_i, D.boo_b, D.str_s, D.rows_l, List.getD_cons_zero, List.getD_cons_succ, List.cons_append, List.nil_append, List.append_nil, List.length_cons, List.length_nil]; rfl, h, ⟨rfl, fun i hi => ?_⟩, by simp [D.rows], by omega, by omega⟩
    match i, hi with
    | 0, _ | 1, _ | 2, _ | 3, _ | 4, _ | 5, _ | 6, _ | 7, _ | 8, _ | 9, _ | 10, _ | 11, _ => simp [D.cell, D.rows, D.int]
  · rintro m l ⟨a, k, d, rfl, hs, ⟨hf1, hf2⟩, hone, k0, hk⟩
    simp only [List.cons_append, List.nil_append]
    refine To.ite (fun c => ?_) (fun c => ?_) <;> simp only [X.den, X.dens, X.denss, D.int_i, D.boo_b, D.str_s, D.rows_l, List.getD_cons_zero, List.getD_cons_succ, List.cons_append, List.nil_append, List.append_nil, List.length_cons, List.length_nil, decide_eq_true_eq, decide_eq_false_iff_not, Bool.not_eq_true', Bool.not_eq_false', Bool.and_eq_true, Bool.and_eq_false_iff, Bool.true_eq_false, Bool.false_eq_true, Bool.not_true, Bool.not_false, eq_self] at c
    · refine To.via (srcN_to hs (by decide) (by decide)) ?_
      rintro l ⟨r, a1, rfl, r0, r1, hs1⟩
      refine ⟨rfl, ?_⟩
      simp only [List.cons_append, List.nil_append]
      refine To.need (by simp only [X.den, X.dens, X.denss, D.int_i, D.boo_b, D.str_s, D.rows_l, List.getD_cons_zero, List.getD_cons_succ, List.cons_append, List.nil_append, List.append_nil, List.length_cons, List.length_nil, decide_eq_true_eq, decide_eq_false_iff_not, Bool.not_eq_true', Bool.not_eq_false', Bool.and_eq_true, Bool.and_eq_false_iff, Bool.true_eq_false, Bool.false_eq_true, Bool.not_true, Bool.not_false, eq_self]; omega) ?_
      refine To.need (by simp only [X.den, X.dens, X.denss, D.int_i, D.boo_b, D.str_s, D.rows_l, List.getD_cons_zero, List.getD_cons_succ, List.cons_append, List.nil_append, List.append_nil, List.length_cons, List.length_nil, decide_eq_true_eq, decide_eq_false_iff_not, Bool.not_eq_true', Bool.not_eq_false', Bool.and_eq_true, Bool.and_eq_false_iff, Bool.true_eq_false, Bool.false_eq_true, Bool.not_true, Bool.not_false, eq_self, D.len]; omega) ?_
      obtain ⟨z, hz, ez⟩ := pick_cell (zs := [0, 100, -300, 700, -1000, 1000]) r0 r1
      have ez' : (D.l [[.i 0], [.i 100], [.i (-300)], [.i 700], [.i (-1000)], [.i 1000]]).cell r 0 = .i z := ez
      have zb : -1000 ≤ z ∧ z ≤ 1000 := by
        simp only [List.mem_cons, List.not_mem_nil, or_false] at hz
        omega
      refine To.ret (.inl ⟨rfl, m - 1, by omega, a1, k + 1, _, by simp only [X.den, X.dens, X.denss, D.int_i, D.boo_b, D.str_s, D.rows_l, List.getD_cons_zero, List.getD_cons_succ, List.cons_append, List.nil_append, List.append_nil, List.length_cons, List.length_nil]; rfl, hs1, ⟨by rw [put_rows, List.length_set]; exact hf1, fun i hi => ?_⟩, ?_, by omega, by omega⟩)
      · have hkl : k.toNat < d.rows.length := by omega
        by_cases e : i = k.toNat
        · subst e
          have h1 : (d.rows.getD k.toNat []).length = 1 := by
            rw [List.getD_eq_getElem?_getD, List.getElem?_eq_getElem hkl, Option.getD_some]
            exact hone _ (List.getElem_mem hkl)
          obtain ⟨x, hx⟩ := len1 h1
          have : (d.put k 0 (.i z)).cell k.toNat 0 = .i z := by
            unfold D.cell
            rw [put_rows, List.getD_eq_getElem?_getD, List.getD_eq_getElem?_getD, Int.toNat_natCast, List.getElem?_set_self hkl, Option.getD_some, hx]
            rfl
          rw [ez', this]
          exact zb
        · have : (d.put k 0 ((D.l [[.i 0], [.i 100], [.i (-300)], [.i 700], [.i (-1000)], [.i 1000]]).cell r 0)).cell i 0 = d.cell i 0 := by
            unfold D.cell
            rw [put_rows, List.getD_eq_getElem?_getD (l := d.rows.set _ _), List.getElem?_set_ne (by omega), ← List.getD_eq_getElem?_getD]
          rw [this]
          exact hf2 i hi
      · intro row hr
        rw [put_rows] at hr
        rcases List.mem_or_eq_of_mem_set hr with hr | rfl
        · exact hone row hr
        · rw [List.length_set]
          have hkl : k.toNat < d.rows.length := by omega
          rw [List.getD_eq_getElem?_getD, List.getElem?_eq_getElem hkl, Option.getD_some]
          exact hone _ (List.getElem_mem hkl)
    · exact To.ret (.inr ⟨rfl, a, d, by simp only [X.den, X.dens, X.denss, D.int_i, D.boo_b, D.str_s, D.rows_l, List.getD_cons_zero, List.getD_cons_succ, List.cons_append, List.nil_append, List.append_nil, List.length_cons, List.length_nil], hs, hf1, hf2⟩)
  · rintro l ⟨a, d, rfl, hs, hf⟩
    refine ⟨rfl, ?_⟩
    simp only [List.cons_append, List.nil_append]
    exact To.ret ⟨d, a, by simp only [X.den, X.dens, X.denss, D.int_i, D.boo_b, D.str_s, D.rows_l, List.getD_cons_zero, List.getD_cons_succ, List.cons_append, List.nil_append, List.append_nil, List.length_cons, List.length_nil], hf, hs⟩
theorem srcHull_to {rows : List (List D)} {at_ : Int} (h : SrcOk rows at_) : ∃ l, srcHull_T.run srcHM 0 [.l rows, .i at_] = some l ∧ ∃ h0 h1 h2 h3 h4 h5 h6 h7 h8 h9 h10 h11 h12 at', l = [h0, h1, h2, h3, h4, h5, h6, h7, h8, .i h9, .i h10, .i h11, .i h12, .l rows, .i at'] ∧ HullOk h0 h1 h2 h3 h4 h5 h6 h7 h8 (.i h9) (.i h10) (.i h11) (.i h12) ∧ SrcOk rows at' := by
  refine run_to ?_
  unfold srcHull_T
  refine To.via (srcList_to h) ?_
  rintro l ⟨d0, at0, rfl, g0, h⟩
  refine ⟨rfl, ?_⟩
  simp only [List.cons_append, List.nil_append]
  refine To.via (srcList_to h) ?_
  rintro l ⟨d1, at1, rfl, g1, h⟩
  refine ⟨rfl, ?_⟩
  simp only [List.cons_append, List.nil_append]
  refine To.via (srcList_to h) ?_
  rintro l ⟨d2, at2, rfl, g2, h⟩
  refine ⟨rfl, ?_⟩
  simp only [List.cons_append, List.nil_append]
  refine To.via (srcList_to h) ?_
  rintro l ⟨d3, at3, rfl, g3, h⟩
  refine ⟨rfl, ?_⟩
  simp only [List.cons_append, List.nil_append]
  refine To.via (srcList_to h) ?_
  rintro l ⟨d4, at4, rfl, g4, h⟩
  refine ⟨rfl, ?_⟩
  simp only [List.cons_append, List.nil_append]
  refine To.via (srcList_to h) ?_
  rintro l ⟨d5, at5, rfl, g5, h⟩
  refine ⟨rfl, ?_⟩
  simp only [List.cons_append, List.nil_append]
  refine To.via (srcList_to h) ?_
  rintro l ⟨d6, at6, rfl, g6, h⟩
  refine ⟨rfl, ?_⟩
  simp only [List.cons_append, List.nil_append]
  refine To.via (srcList_to h) ?_
  rintro l ⟨d7, at7, rfl, g7, h⟩
  refine ⟨rfl, ?_⟩
  simp only [List.cons_append, List.nil_append]
  refine To.via (srcList_to h) ?_
  rintro l ⟨d8, at8, rfl, g8, h⟩
  refine ⟨rfl, ?_⟩
  simp only [List.cons_append, List.nil_append]
  refine To.via (srcN_to h (by decide) (by decide)) ?_
  rintro l ⟨r1, a1, rfl, p1, q1, h⟩
  refine ⟨rfl, ?_⟩
  simp only [List.cons_append, List.nil_append]
  refine To.need (by simp only [X.den, X.dens, X.denss, D.int_i, D.boo_b, D.str_s, D.rows_l, List.getD_cons_zero, List.getD_cons_succ, List.cons_append, List.nil_append, List.append_nil, List.length_cons, List.length_nil, decide_eq_true_eq, decide_eq_false_iff_not, Bool.not_eq_true', Bool.not_eq_false', Bool.and_eq_true, Bool.and_eq_false_iff, Bool.true_eq_false, Bool.false_eq_true, Bool.not_true, Bool.not_false, eq_self]; omega) ?_
  refine To.via (srcN_to h (by decide) (by decide)) ?_
  rintro l ⟨r2, a2, rfl, p2, q2, h⟩
  refine ⟨rfl, ?_⟩
  simp only [List.cons_append, List.nil_append]
  refine To.need (by simp only [X.den, X.dens, X.denss, D.int_i, D.boo_b, D.str_s, D.rows_l, List.getD_cons_zero, List.getD_cons_succ, List.cons_append, List.nil_append, List.append_nil, List.length_cons, List.length_nil, decide_eq_true_eq, decide_eq_false_iff_not, Bool.not_eq_true', Bool.not_eq_false', Bool.and_eq_true, Bool.and_eq_false_iff, Bool.true_eq_false, Bool.false_eq_true, Bool.not_true, Bool.not_false, eq_self]; omega) ?_
  refine To.via (srcN_to h (by decide) (by decide)) ?_
  rintro l ⟨r3, a3, rfl, p3, q3, h⟩
  refine ⟨rfl, ?_⟩
  simp only [List.cons_append, List.nil_append]
  refine To.need (by simp only [X.den, X.dens, X.denss, D.int_i, D.boo_b, D.str_s, D.rows_l, List.getD_cons_zero, List.getD_cons_succ, List.cons_append, List.nil_append, List.append_nil, List.length_cons, List.length_nil, decide_eq_true_eq, decide_eq_false_iff_not, Bool.not_eq_true', Bool.not_eq_false', Bool.and_eq_true, Bool.and_eq_false_iff, Bool.true_eq_false, Bool.false_eq_true, Bool.not_true, Bool.not_false, eq_self]; omega) ?_
  refine To.via (srcN_to h (by decide) (by decide)) ?_
  rintro l ⟨r4, a4, rfl, p4, q4, h⟩
  refine ⟨rfl, ?_⟩
  simp only [List.cons_append, List.nil_append]
  refine To.need (by simp only [X.den, X.dens, X.denss, D.int_i, D.boo_b, D.str_s, D.rows_l, List.getD_cons_zero, List.getD_cons_succ, List.cons_append, List.nil_append, List.append_nil, List.length_cons, List.length_nil, decide_eq_true_eq, decide_eq_false_iff_not, Bool.not_eq_true', Bool.not_eq_false', Bool.and_eq_true, Bool.and_eq_false_iff, Bool.true_eq_false, Bool.false_eq_true, Bool.not_true, Bool.not_false, eq_self]; omega) ?_
  obtain ⟨m, hm, em⟩ := pick_cell (zs := [1000, 1, 30, 5000, 1000000]) p1 q1
  have em : (D.l [[.i 1000], [.i 1], [.i 30], [.i 5000], [.i 1000000]]).cell r1 0 = .i m := em
  obtain ⟨n, hn, en⟩ := pick_cell (zs := [100000, 1, 500, 1073741824]) p2 q2
  have en : (D.l [[.i 100000], [.i 1], [.i 500], [.i 1073741824]]).cell r2 0 = .i n := en
  have mb : 1 ≤ m ∧ m ≤ 1000000 := by simp only [List.mem_cons, List.not_mem_nil, or_false] at hm; omega
  have nb : 1 ≤ n ∧ n ≤ 1073741824 := by simp only [List.mem_cons, List.not_mem_nil, or_false] at hn; omega
  have md : m.tdiv 10 = m / 10 := Int.tdiv_eq_ediv_of_nonneg (by omega)
  have nd : n.tdiv 10 = n / 10 := Int.tdiv_eq_ediv_of_nonneg (by omega)
  obtain ⟨u, hu, eu⟩ := pick_cell (zs := [0, 1, m / 10, m]) p3 q3
  have eu : (D.l [[.i 0], [.i 1], [.i (m / 10)], [.i m]]).cell r3 0 = .i u := eu
  obtain ⟨v, hv, ev⟩ := pick_cell (zs := [0, 1, n / 10, n]) p4 q4
  have ev : (D.l [[.i 0], [.i 1], [.i (n / 10)], [.i n]]).cell r4 0 = .i v := ev
  refine To.ret ?_
  simp only [X.den, X.dens, X.denss, D.int_i, D.boo_b, D.str_s, D.rows_l, List.getD_cons_zero, List.getD_cons_succ, List.cons_append, List.nil_append, List.append_nil, List.length_cons, List.length_nil, em, en, md, nd, wr64 (z := m / 10) (by omega) (by omega), wr64 (z := n / 10) (by omega) (by omega), eu, ev]
  refine ⟨_, _, _, _, _, _, _, _, _, _, _, _, _, _, rfl, ?_, h⟩
  have ub : 0 ≤ u := by simp only [List.mem_cons, List.not_mem_nil, or_false] at hu; omega
  have vb : 0 ≤ v := by simp only [List.mem_cons, List.not_mem_nil, or_false] at hv; omega
  exact ⟨g0, g1, g2, g3, g4, g5, g6, g7, g8, by simp only [D.int_i]; omega, by simp only [D.int_i]; omega, by simp only [D.int_i]; omega, by simp only [D.int_i]; omega, by simp only [D.int_i]; omega, by simp only [D.int_i]; omega, by simp only [D.int_i]; omega, by simp only [D.int_i]; omega⟩
end Go.Proofs.Ytdkamfkpmplaoaa
