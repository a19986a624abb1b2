/- CircleMoves. -/
import Derived.Test.YthfagiihfkjamaaMovT
set_option linter.unusedVariables false
set_option linter.unusedSimpArgs false
namespace Go.Proofs.Ythfagiihfkjamaa
open Go.RowKit Fx
noncomputable def movM : Models := Models.on srcCircle_K.f (srcCircle_T.run srcM 0) (Models.on srcEst_K.f (srcEst_T.run srcM 0) (Models.on fxFar_K.f fxFarR (Models.on fxClose_K.f fxCloseR (Models.on fxWorst_K.f fxWorstR (Models.on sane29_K.f (fun ds => if ds = [] then some [.b true] else none) noM)))))
def mvm (ds : List D) : Option (List D) := match ds with
  | [.l _, .i x, .i y] => if (-32768 ≤ x ∧ x ≤ 32767) ∧ -32768 ≤ y ∧ y ≤ 32767 then some [.b true] else none
  | _ => none
theorem moves_ok : ConOk Try.prog moves_K mvm :=
  con_of follows (M := movM) (one_con (srcCircle_ok.to _) (one_con (srcEst_ok.to _) (one_con (fxFar_ok.to _) (one_con (fxClose_ok.to _) (one_con (fxWorst_ok.to _) (one_con (sane29_ok.to _) no_cons)))))) moves_t fun ds outs hl h => by
    unfold mvm at h
    split at h
    · rename_i rows x y
      split at h
      · rename_i hxy
        injection h with h
        subst h
        refine ⟨BdAll.ok (by simp only [BdAll, moves_K, D.int_i, and_true]; omega), 0, ?_⟩
        unfold moves_T
        refine To.ite (fun c => ?_) (fun c => ?_)
        · refine To.call (l := [.b true]) rfl rfl (To.ret ?_)
          simp only [X.den, X.dens, X.denss, D.int_i, D.boo_b, D.str_s, D.rows_l, List.getD_cons_zero, List.getD_cons_succ, List.cons_append, List.nil_append, List.append_nil, List.length_cons, List.length_nil]
        simp only [X.den, X.dens, X.denss, D.int_i, D.boo_b, D.str_s, D.rows_l, List.getD_cons_zero, List.getD_cons_succ, List.cons_append, List.nil_append, List.append_nil, List.length_cons, List.length_nil, D.len_l, decide_eq_false_iff_not] at c
        refine To.need (by simp only [X.den, X.dens, X.denss, D.int_i, D.boo_b, D.str_s, D.rows_l, List.getD_cons_zero, List.getD_cons_succ, List.cons_append, List.nil_append, List.append_nil, List.length_cons, List.length_nil, D.len_l, Bool.and_eq_true, Bool.not_eq_true', decide_eq_true_eq, decide_eq_false_iff_not]; omega) ?_
        have s0 : SrcOk (rows.take (min (min (rows.length : Int) 9223372036854775807) 600).toNat) 0 := ⟨by omega, by omega, by rw [List.length_take]; omega⟩
        refine To.via (srcCircle_to (t := 0) s0) ?_
        rintro l ⟨cx, cy, ye, re, at1, rfl, b1, b2, b3, b4, b5, k1, b6, s1⟩
        refine ⟨rfl, ?_⟩
        simp only [List.cons_append, List.nil_append]
        clear s0
        generalize (List.take _ _ : List (List D)) = rs at s1 ⊢
        have s1' := s1
        obtain ⟨t1, t2, t3⟩ := s1'
        refine To.need (by simp only [X.den, X.dens, X.denss, D.int_i, D.boo_b, D.str_s, D.rows_l, List.getD_cons_zero, List.getD_cons_succ, List.cons_append, List.nil_append, List.append_nil, List.length_cons, List.length_nil, D.len_l, Bool.and_eq_true, Bool.not_eq_true', decide_eq_true_eq, decide_eq_false_iff_not]; omega) ?_
        refine To.need (by simp only [X.den, X.dens, X.denss, D.int_i, D.boo_b, D.str_s, D.rows_l, List.getD_cons_zero, List.getD_cons_succ, List.cons_append, List.nil_append, List.append_nil, List.length_cons, List.length_nil, D.len_l, Bool.and_eq_true, Bool.not_eq_true', decide_eq_true_eq, decide_eq_false_iff_not]; omega) ?_
        refine To.need (by simp only [X.den, X.dens, X.denss, D.int_i, D.boo_b, D.str_s, D.rows_l, List.getD_cons_zero, List.getD_cons_succ, List.cons_append, List.nil_append, List.append_nil, List.length_cons, List.length_nil, D.len_l, Bool.and_eq_true, Bool.not_eq_true', decide_eq_true_eq, decide_eq_false_iff_not]; omega) ?_
        refine To.need (by simp only [X.den, X.dens, X.denss, D.int_i, D.boo_b, D.str_s, D.rows_l, List.getD_cons_zero, List.getD_cons_succ, List.cons_append, List.nil_append, List.append_nil, List.length_cons, List.length_nil, D.len_l, Bool.and_eq_true, Bool.not_eq_true', decide_eq_true_eq, decide_eq_false_iff_not]; omega) ?_
        refine To.need (by simp only [X.den, X.dens, X.denss, D.int_i, D.boo_b, D.str_s, D.rows_l, List.getD_cons_zero, List.getD_cons_succ, List.cons_append, List.nil_append, List.append_nil, List.length_cons, List.length_nil, D.len_l, Bool.and_eq_true, Bool.not_eq_true', decide_eq_true_eq, decide_eq_false_iff_not]; omega) ?_
        refine To.via (srcEst_to (t := 0) s1) ?_
        rintro l ⟨px, py, b, s, at2, rfl, d1, d2, d3, d4, d5, d6, d7, d8, s2⟩
        refine ⟨rfl, ?_⟩
        simp only [List.cons_append, List.nil_append]
        obtain ⟨t4, t5, t6⟩ := s2
        refine To.need (by simp only [X.den, X.dens, X.denss, D.int_i, D.boo_b, D.str_s, D.rows_l, List.getD_cons_zero, List.getD_cons_succ, List.cons_append, List.nil_append, List.append_nil, List.length_cons, List.length_nil, D.len_l, Bool.and_eq_true, Bool.not_eq_true', decide_eq_true_eq, decide_eq_false_iff_not]; omega) ?_
        refine To.need (by simp only [X.den, X.dens, X.denss, D.int_i, D.boo_b, D.str_s, D.rows_l, List.getD_cons_zero, List.getD_cons_succ, List.cons_append, List.nil_append, List.append_nil, List.length_cons, List.length_nil, D.len_l, Bool.and_eq_true, Bool.not_eq_true', decide_eq_true_eq, decide_eq_false_iff_not]; omega) ?_
        refine To.need (by simp only [X.den, X.dens, X.denss, D.int_i, D.boo_b, D.str_s, D.rows_l, List.getD_cons_zero, List.getD_cons_succ, List.cons_append, List.nil_append, List.append_nil, List.length_cons, List.length_nil, D.len_l, Bool.and_eq_true, Bool.not_eq_true', decide_eq_true_eq, decide_eq_false_iff_not]; omega) ?_
        refine To.need (by simp only [X.den, X.dens, X.denss, D.int_i, D.boo_b, D.str_s, D.rows_l, List.getD_cons_zero, List.getD_cons_succ, List.cons_append, List.nil_append, List.append_nil, List.length_cons, List.length_nil, D.len_l, Bool.and_eq_true, Bool.not_eq_true', decide_eq_true_eq, decide_eq_false_iff_not]; omega) ?_
        refine To.need (by simp only [X.den, X.dens, X.denss, D.int_i, D.boo_b, D.str_s, D.rows_l, List.getD_cons_zero, List.getD_cons_succ, List.cons_append, List.nil_append, List.append_nil, List.length_cons, List.length_nil, D.len_l, Bool.and_eq_true, Bool.not_eq_true', decide_eq_true_eq, decide_eq_false_iff_not]; omega) ?_
        refine To.join (fun l => ∃ a r, l = [.i a, .i r] ∧ 0 ≤ r ∧ r < 2 ∧ 0 ≤ a ∧ a ≤ rs.length) (To.ite (fun c => ?_) (fun c => ?_)) ?_
        · simp only [X.den, X.dens, X.denss, D.int_i, D.boo_b, D.str_s, D.rows_l, List.getD_cons_zero, List.getD_cons_succ, List.cons_append, List.nil_append, List.append_nil, List.length_cons, List.length_nil, D.len_l, decide_eq_true_eq] at c
          refine To.need (by simp only [X.den, X.dens, X.denss, D.int_i, D.boo_b, D.str_s, D.rows_l, List.getD_cons_zero, List.getD_cons_succ, List.cons_append, List.nil_append, List.append_nil, List.length_cons, List.length_nil, D.len_l, decide_eq_true_eq]; omega) (To.ret ⟨rfl, ?_⟩)
          simp only [X.den, X.dens, X.denss, D.int_i, D.boo_b, D.str_s, D.rows_l, List.getD_cons_zero, List.getD_cons_succ, List.cons_append, List.nil_append, List.append_nil, List.length_cons, List.length_nil]
          generalize (D.cell _ _ _).int = z
          obtain ⟨q1, q2, _, _⟩ := mod_rng z 2 (by decide)
          exact ⟨_, _, rfl, q1, q2, by omega, by omega⟩
        · refine To.ret ⟨rfl, ?_⟩
          simp only [X.den, X.dens, X.denss, D.int_i, D.boo_b, D.str_s, D.rows_l, List.getD_cons_zero, List.getD_cons_succ, List.cons_append, List.nil_append, List.append_nil, List.length_cons, List.length_nil]
          exact ⟨_, _, rfl, by decide, by decide, by omega, by omega⟩
        rintro l ⟨at3, r, rfl, r0, r1, _, _⟩
        simp only [List.cons_append, List.nil_append]
        have f1 := fxFar_to (cx := cx) (cy := cy) (ye := ye) (re := re) (px := px) (py := py) (b := b) (t := 0) (s := 1 + r) (by simp only [BdAll, fxFar_K, fxClose_K, fxWorst_K, D.int_i, and_true]; omega) k1
        have f2 := fxFar_to (cx := cx + x) (cy := cy + y) (ye := ye) (re := re) (px := px + x) (py := py + y) (b := b) (t := 0) (s := 1 + r) (by simp only [BdAll, fxFar_K, fxClose_K, fxWorst_K, D.int_i, and_true]; omega) k1
        have c1 := fxClose_to (cx := cx) (cy := cy) (ye := ye) (re := re) (px := px) (py := py) (b := b) (t := 0) (s := 1 + r) (by simp only [BdAll, fxFar_K, fxClose_K, fxWorst_K, D.int_i, and_true]; omega) k1
        have c2 := fxClose_to (cx := cx + x) (cy := cy + y) (ye := ye) (re := re) (px := px + x) (py := py + y) (b := b) (t := 0) (s := 1 + r) (by simp only [BdAll, fxFar_K, fxClose_K, fxWorst_K, D.int_i, and_true]; omega) k1
        have f3 := fxFar_to (cx := 0 - cx) (cy := cy) (ye := ye) (re := re) (px := 0 - px) (py := py) (b := b) (t := 0) (s := 1 + r) (by simp only [BdAll, fxFar_K, fxClose_K, fxWorst_K, D.int_i, and_true]; omega) k1
        have w1 := fxWorst_to (cx := cx) (cy := cy) (ye := ye) (re := re) (px := px) (py := py) (b := b) (t := 0) (s := 1 + r) (by simp only [BdAll, fxFar_K, fxClose_K, fxWorst_K, D.int_i, and_true]; omega) k1
        have w2 := fxWorst_to (cx := 0 - cx) (cy := cy) (ye := ye) (re := re) (px := 0 - px) (py := py) (b := b) (t := 0) (s := 1 + r) (by simp only [BdAll, fxFar_K, fxClose_K, fxWorst_K, D.int_i, and_true]; omega) k1
        have m1 : max (px + x - (cx + x)) (cx + x - (px + x)) = max (px - cx) (cx - px) := by omega
        have m2 : max (py + y - (cy + y)) (cy + y - (py + y)) = max (py - cy) (cy - py) := by omega
        have m3 : max (0 - px - (0 - cx)) (0 - cx - (0 - px)) = max (px - cx) (cx - px) := by omega
        rw [m1, m2] at f2 c2
        rw [m3] at f3 w2
        refine To.join (fun l => l = [.b true]) ?_ ?_
        · refine To.call (l := _) f1 rfl ?_
          simp only [List.cons_append, List.nil_append]
          refine To.call (l := _) f2 rfl ?_
          simp only [List.cons_append, List.nil_append]
          refine To.yes (by simp only [X.den, X.dens, X.denss, D.int_i, D.boo_b, D.str_s, D.rows_l, List.getD_cons_zero, List.getD_cons_succ, List.cons_append, List.nil_append, List.append_nil, List.length_cons, List.length_nil, decide_true]) ?_
          refine To.call (l := _) c1 rfl ?_
          simp only [List.cons_append, List.nil_append]
          refine To.call (l := _) c2 rfl ?_
          simp only [List.cons_append, List.nil_append]
          refine To.yes (by simp only [X.den, X.dens, X.denss, D.int_i, D.boo_b, D.str_s, D.rows_l, List.getD_cons_zero, List.getD_cons_succ, List.cons_append, List.nil_append, List.append_nil, List.length_cons, List.length_nil, decide_true]) ?_
          refine To.call (l := _) f1 rfl ?_
          simp only [List.cons_append, List.nil_append]
          refine To.call (l := _) f3 rfl ?_
          simp only [List.cons_append, List.nil_append]
          refine To.yes (by simp only [X.den, X.dens, X.denss, D.int_i, D.boo_b, D.str_s, D.rows_l, List.getD_cons_zero, List.getD_cons_succ, List.cons_append, List.nil_append, List.append_nil, List.length_cons, List.length_nil, decide_true]) ?_
          refine To.call (l := _) w1 rfl ?_
          simp only [List.cons_append, List.nil_append]
          refine To.call (l := _) w2 rfl ?_
          simp only [List.cons_append, List.nil_append]
          refine To.yes (by simp only [X.den, X.dens, X.denss, D.int_i, D.boo_b, D.str_s, D.rows_l, List.getD_cons_zero, List.getD_cons_succ, List.cons_append, List.nil_append, List.append_nil, List.length_cons, List.length_nil, decide_true]) ?_
          refine To.call (l := [.b true]) rfl rfl (To.ret ⟨rfl, ?_⟩)
          simp only [X.den, X.dens, X.denss, D.int_i, D.boo_b, D.str_s, D.rows_l, List.getD_cons_zero, List.getD_cons_succ, List.cons_append, List.nil_append, List.append_nil, List.length_cons, List.length_nil]
        rintro l rfl
        refine To.ret ?_
        simp only [X.den, X.dens, X.denss, D.int_i, D.boo_b, D.str_s, D.rows_l, List.getD_cons_zero, List.getD_cons_succ, List.cons_append, List.nil_append, List.append_nil, List.length_cons, List.length_nil]
      · cases h
    · cases h
theorem i16_rng {z : Int} (h : (Lit.int .i16 z).wf = true) : -32768 ≤ z ∧ z ≤ 32767 := by
  simpa [Lit.wf, IntKind.min, IntKind.max, IntKind.bits, IntKind.signed] using h
theorem CircleMoves_walk {w : World} (v : Value) (zs : List Int) (h : IntsIn w w.heap.size v .i64 zs) (hz : ∀ z ∈ zs, (Lit.int .i64 z).wf = true) (x : Int) (hx : (Lit.int .i16 x).wf = true) (y : Int) (hy : (Lit.int .i16 y).wf = true) : Calls Try.prog 13 #[v, .int .i16 x, .int .i16 y] w fun e w' => e = .returned (.bool true) ∧ Below w.heap.size w w' :=
  con_law moves_ok rfl (fun G hG => args_ints h hG (args_int (args_int (by trivial)))) (by simp [moves_K]) (ds := [numD zs, .i x, .i y]) (by simp only [numD, mvm]; exact if_pos ⟨i16_rng hx, i16_rng hy⟩)
end Go.Proofs.Ythfagiihfkjamaa
