/- Rows of numbers. -/
import Derived.Test.YtdkamfkpmplaoaaExa
set_option linter.unusedVariables false
set_option linter.unusedSimpArgs false
namespace Go.Proofs.Ytdkamfkpmplaoaa
open Go.RowKit Fx
/-- numbers as rows -/
def nums (xs : List Int) : List (List D) := xs.map fun z => [.i z]
theorem nums_len {xs : List Int} : (nums xs).length = xs.length := List.length_map ..
theorem nums_take {xs : List Int} {j : Nat} : (nums xs).take j = nums (xs.take j) := by simp only [nums, List.map_take]
theorem nums_drop {xs : List Int} {j : Nat} : (nums xs).drop j = nums (xs.drop j) := by simp only [nums, List.map_drop]
theorem nums_app {xs ys : List Int} : nums xs ++ nums ys = nums (xs ++ ys) := by simp only [nums, List.map_append]
theorem nums_one {z : Int} : [[D.i z]] = nums [z] := rfl
theorem nums_nil : ([] : List (List D)) = nums [] := rfl
theorem nums_cell {xs : List Int} {i : Int} (h0 : 0 ≤ i) (h1 : i < xs.length) : (D.l (nums xs)).cell i 0 = .i (xs.getD i.toNat 0) := by
  have h : i.toNat < xs.length := by omega
  simp only [D.cell, D.rows, nums, List.getD_eq_getElem?_getD, List.getElem?_map, List.getElem?_eq_getElem h, Option.map_some, Option.getD_some, List.getElem?_cons_zero]
theorem nums_put {xs : List Int} {i : Int} {z : Int} (h0 : 0 ≤ i) (h1 : i < xs.length) : (D.l (nums xs)).put i 0 (.i z) = .l (nums (xs.set i.toNat z)) := by
  have h : i.toNat < xs.length := by omega
  simp only [D.put, D.rows, nums, List.getD_eq_getElem?_getD, List.getElem?_map, List.getElem?_eq_getElem h, Option.map_some, Option.getD_some, List.set_cons_zero, List.map_set]
theorem nums_rep {n : Nat} : List.replicate n [D.i 0] = nums (List.replicate n 0) := by simp only [nums, List.map_replicate]
def ints_H : List Hint := [
  ⟨67104819, 2, [], ⟨[.var 0, .var 1, .und, .und, .bool (.B false), .und, .und, .und, .und, .und, .und, .und, .int .i64 (.len (.V 0)), .int .i64 (.V 2), .und, .und, .und, .und, .und, .und, .und, .und, .und, .und, .und, .und], [], 3, 2, [none, none, none], [], [⟨0, [.int .i64], (.V 0)⟩, ⟨1, [.int .i64], (.V 1)⟩]⟩⟩]
def ints_K : Con := ⟨61, [.val false [.sl [.int .i64]], .val false [.sl [.int .i64]]], [.val false [.bool]], []⟩
def ints_T : T (List X) :=
  (.ite (.eq (.len (.V 0)) (.len (.V 1)))
  (.loop [(.N 0)]
   (.ite (.lt (.V 2) (.len (.V 0)))
    (.need (.and (.not (.lt (.V 2) (.N 0))) (.lt (.V 2) (.len (.V 0))))
     (.need (.and (.not (.lt (.V 2) (.N 0))) (.lt (.V 2) (.len (.V 1))))
      (.ite (.eq (.at (.V 0) (.V 2) 0) (.at (.V 1) (.V 2) 0))
       (.ret (true, [(.wr .i64 (.add (.V 2) (.N 1)))]))
       (.ret (false, [(.N 0)])))))
    (.ret (false, [(.N 1)]))) 1
   (.ite (.eq (.V 2) (.N 0))
    (.ret [(.B false)])
    (.ret [(.B true)])))
  (.ret [(.B false)]))
set_option maxRecDepth 100000 in
theorem ints_t : runS Try.prog [] [(61, ints_H)] ints_K = ints_T := by kernel_rfl
theorem ints_ok : ConOk Try.prog ints_K (ints_T.run noM 2000) := con_run follows no_cons ints_t rfl 2000
theorem ints_same {xs : List Int} (h : xs.length ≤ 1000) : ∃ l, ints_T.run noM 2000 [.l (nums xs), .l (nums xs)] = some l ∧ l = [.b true] := by
  refine run_to ?_
  unfold ints_T
  (repeat' (first
      
      | (refine To.subK (fun K hK => ?_))
      | (refine To.need (by simp (disch := omega) only [X.den, X.dens, X.denss, D.int_i, D.boo_b, D.str_s, D.rows_l, List.getD_cons_zero, List.getD_cons_succ, List.cons_append, List.nil_append, List.append_nil, List.length_cons, List.length_nil, decide_eq_true_eq, decide_eq_false_iff_not, Bool.not_eq_true', Bool.not_eq_false', Bool.and_eq_true, Bool.and_eq_false_iff, Bool.true_eq_false, Bool.false_eq_true, Bool.not_true, Bool.not_false, eq_self, D.len_l, wr64, not_true_eq_false, not_false_eq_true, nums_len] <;> omega) ?_)
      | (refine To.ite (fun c => ?_) (fun c => ?_) <;> ((try simp (disch := omega) only [X.den, X.dens, X.denss, D.int_i, D.boo_b, D.str_s, D.rows_l, List.getD_cons_zero, List.getD_cons_succ, List.cons_append, List.nil_append, List.append_nil, List.length_cons, List.length_nil, decide_eq_true_eq, decide_eq_false_iff_not, Bool.not_eq_true', Bool.not_eq_false', Bool.and_eq_true, Bool.and_eq_false_iff, Bool.true_eq_false, Bool.false_eq_true, Bool.not_true, Bool.not_false, eq_self, D.len_l, wr64, not_true_eq_false, not_false_eq_true, nums_len] at c) <;> (try (exfalso; omega))))
      | (refine To.ret ⟨rfl, ?_⟩; (try simp (disch := omega) only [X.den, X.dens, X.denss, D.int_i, D.boo_b, D.str_s, D.rows_l, List.getD_cons_zero, List.getD_cons_succ, List.cons_append, List.nil_append, List.append_nil, List.length_cons, List.length_nil, decide_eq_true_eq, decide_eq_false_iff_not, Bool.not_eq_true', Bool.not_eq_false', Bool.and_eq_true, Bool.and_eq_false_iff, Bool.true_eq_false, Bool.false_eq_true, Bool.not_true, Bool.not_false, eq_self, D.len_l, wr64, not_true_eq_false, not_false_eq_true, nums_len]); refine hK _ _ (by simp only [List.cons_append, List.nil_append]; first | done | rfl) ?_; clear hK; clear K)))
  refine To.loopK (fun m l => ∃ i : Int, l = [.i i] ∧ 0 ≤ i ∧ i + m = xs.length) (fun l => l = [.i 1]) xs.length (by omega) ?_ ?_ ?_
  · exact ⟨0, by simp only [X.den, X.dens, X.denss, D.int_i, D.boo_b, D.str_s, D.rows_l, List.getD_cons_zero, List.getD_cons_succ, List.cons_append, List.nil_append, List.append_nil, List.length_cons, List.length_nil], by omega, by omega⟩
  · rintro m l ρ2 ⟨i, rfl, i0, i1⟩ eρ
    simp only [List.cons_append, List.nil_append] at eρ
    subst eρ
    (repeat' (first
        
        | (refine To.subK (fun K hK => ?_))
        | (refine To.need (by simp (disch := omega) only [X.den, X.dens, X.denss, D.int_i, D.boo_b, D.str_s, D.rows_l, List.getD_cons_zero, List.getD_cons_succ, List.cons_append, List.nil_append, List.append_nil, List.length_cons, List.length_nil, decide_eq_true_eq, decide_eq_false_iff_not, Bool.not_eq_true', Bool.not_eq_false', Bool.and_eq_true, Bool.and_eq_false_iff, Bool.true_eq_false, Bool.false_eq_true, Bool.not_true, Bool.not_false, eq_self, D.len_l, wr64, not_true_eq_false, not_false_eq_true, nums_len] <;> omega) ?_)
        | (refine To.ite (fun c => ?_) (fun c => ?_) <;> ((try simp (disch := omega) only [X.den, X.dens, X.denss, D.int_i, D.boo_b, D.str_s, D.rows_l, List.getD_cons_zero, List.getD_cons_succ, List.cons_append, List.nil_append, List.append_nil, List.length_cons, List.length_nil, decide_eq_true_eq, decide_eq_false_iff_not, Bool.not_eq_true', Bool.not_eq_false', Bool.and_eq_true, Bool.and_eq_false_iff, Bool.true_eq_false, Bool.false_eq_true, Bool.not_true, Bool.not_false, eq_self, D.len_l, wr64, not_true_eq_false, not_false_eq_true, nums_len] at c) <;> (try (exfalso; omega))))
        | (refine To.ret ⟨rfl, ?_⟩; (try simp (disch := omega) only [X.den, X.dens, X.denss, D.int_i, D.boo_b, D.str_s, D.rows_l, List.getD_cons_zero, List.getD_cons_succ, List.cons_append, List.nil_append, List.append_nil, List.length_cons, List.length_nil, decide_eq_true_eq, decide_eq_false_iff_not, Bool.not_eq_true', Bool.not_eq_false', Bool.and_eq_true, Bool.and_eq_false_iff, Bool.true_eq_false, Bool.false_eq_true, Bool.not_true, Bool.not_false, eq_self, D.len_l, wr64, not_true_eq_false, not_false_eq_true, nums_len]); refine hK _ _ (by simp only [List.cons_append, List.nil_append]; first | done | rfl) ?_; clear hK; clear K)))
    all_goals first
      | (refine To.ret (.inl ⟨rfl, m - 1, by omega, ?_⟩); simp (disch := omega) only [X.den, X.dens, X.denss, D.int_i, D.boo_b, D.str_s, D.rows_l, List.getD_cons_zero, List.getD_cons_succ, List.cons_append, List.nil_append, List.append_nil, List.length_cons, List.length_nil, wr64]; exact ⟨_, rfl, by omega, by omega⟩)
      | exact To.ret (.inr ⟨rfl, by simp only [X.den, X.dens, X.denss, D.int_i, D.boo_b, D.str_s, D.rows_l, List.getD_cons_zero, List.getD_cons_succ, List.cons_append, List.nil_append, List.append_nil, List.length_cons, List.length_nil]⟩)
      | trace_state
  · rintro l ρ2 rfl eρ
    simp only [List.cons_append, List.nil_append] at eρ
    subst eρ
    exact ⟨rfl, To.no rfl (To.ret (by simp only [X.den, X.dens, X.denss, D.int_i, D.boo_b, D.str_s, D.rows_l, List.getD_cons_zero, List.getD_cons_succ, List.cons_append, List.nil_append, List.append_nil, List.length_cons, List.length_nil]))⟩
end Go.Proofs.Ytdkamfkpmplaoaa
