/- VesselSplits: running so many ticks and then so many is running all of them. -/
import Derived.Test.YtcogndnencabhaaSplT
set_option linter.unusedVariables false
set_option linter.unusedSimpArgs false
namespace Go.Proofs.Ytcogndnencabhaa
open Go.RowKit Fx
noncomputable def splM : Models := Models.on srcHull_K.f (srcHull_T.run srcHM 0) (Models.on srcMotion_K.f (srcMotion_T.run srcM 0) (Models.on srcForce_K.f (srcForce_T.run srcM 0) (Models.on vRun_K.f (vRun_T.run vrM 500) (Models.on sane23_K.f (fun _ => some [.b true]) noM))))
theorem out_len {s : List D × Int} (h : s.1.length = 7) : ∃ a b c d e f g, outM s = [a, b, c, d, e, f, g, .i s.2] ∧ (s.2 = 0 → s.1 = [a, b, c, d, e, f, g]) := by
  obtain ⟨s1, s2⟩ := s
  obtain ⟨p0, p1, p2, p3, p4, p5, p6, rfl⟩ := len7 h
  unfold outM
  split
  · rename_i h0
    simp only at h0
    subst h0
    exact ⟨_, _, _, _, _, _, _, rfl, fun _ => rfl⟩
  · rename_i h0
    exact ⟨_, _, _, _, _, _, _, rfl, fun h => absurd h h0⟩
theorem VesselSplits_ok : ConOk Try.prog splits_K fun ds => match ds with | [.l _, .i a, .i b] => if 0 ≤ a ∧ a ≤ 255 ∧ 0 ≤ b ∧ b ≤ 255 then some [.b true] else none | _ => none :=
  con_of follows (M := splM) (one_con (srcHull_ok.to _) (one_con (srcMotion_ok.to _) (one_con (srcForce_ok.to _) (one_con (vRun_ok.to _) (one_con (sane23_ok.to _) no_cons))))) splits_t fun ds outs hl h => by
    split at h
    · rename_i rows a b
      split at h
      · rename_i hab
        injection h with h
        subst h
        refine ⟨fun i l h k => by simp [splits_K] at k, 0, ?_⟩
        unfold splits_T
        refine To.ite (fun c => ?_) (fun c => ?_) <;> simp only [X.den, X.dens, X.denss, D.int_i, D.boo_b, D.str_s, D.rows_l, List.getD_cons_zero, List.getD_cons_succ, List.cons_append, List.nil_append, List.append_nil, List.length_cons, List.length_nil, decide_eq_true_eq, decide_eq_false_iff_not, Bool.not_eq_true', Bool.not_eq_false', Bool.and_eq_true, Bool.and_eq_false_iff, Bool.true_eq_false, Bool.false_eq_true, Bool.not_true, Bool.not_false, eq_self, D.len_l] at c
        · exact To.call (l := [.b true]) rfl rfl (To.ret (by simp only [X.den, X.dens, X.denss, D.int_i, D.boo_b, D.str_s, D.rows_l, List.getD_cons_zero, List.getD_cons_succ, List.cons_append, List.nil_append, List.append_nil, List.length_cons, List.length_nil]))
        refine To.need (by simp only [X.den, X.dens, X.denss, D.int_i, D.boo_b, D.str_s, D.rows_l, List.getD_cons_zero, List.getD_cons_succ, List.cons_append, List.nil_append, List.append_nil, List.length_cons, List.length_nil, decide_eq_true_eq, decide_eq_false_iff_not, Bool.not_eq_true', Bool.not_eq_false', Bool.and_eq_true, Bool.and_eq_false_iff, Bool.true_eq_false, Bool.false_eq_true, Bool.not_true, Bool.not_false, eq_self, D.len_l]; omega) ?_
        refine To.via (srcHull_to (src0 c)) ?_
        rintro l ⟨h0, h1, h2, h3, h4, h5, h6, h7, h8, i9, i10, i11, i12, at1, rfl, hu, h⟩
        refine ⟨rfl, ?_⟩
        simp only [List.cons_append, List.nil_append]
        generalize D.i i9 = h9, D.i i10 = h10, D.i i11 = h11, D.i i12 = h12 at hu ⊢
        refine To.via (srcMotion_to h) ?_
        rintro l ⟨m0, m1, m2, m3, m4, m5, m6, at2, rfl, b1, b2, b3, b4, b5, b6, b7, b8, b9, b10, b11, b12, b13, b14, h⟩
        refine ⟨rfl, ?_⟩
        simp only [List.cons_append, List.nil_append]
        refine To.via (srcForce_to h) ?_
        rintro l ⟨f0, f1, f2, at3, rfl, c1, c2, c3, c4, c5, c6, h⟩
        refine ⟨rfl, ?_⟩
        simp only [List.cons_append, List.nil_append]
        have wa : IntKind.i64.wrap a = a := wr64 (by omega) (by omega)
        have wb : IntKind.i64.wrap b = b := wr64 (by omega) (by omega)
        obtain ⟨x, hx⟩ : ∃ x : Nat, a.tmod 20 = x := ⟨(a.tmod 20).toNat, by have := Int.tmod_nonneg 20 hab.1; omega⟩
        obtain ⟨y, hy⟩ : ∃ y : Nat, b.tmod 20 = y := ⟨(b.tmod 20).toNat, by have := Int.tmod_nonneg 20 hab.2.2.1; omega⟩
        have hx20 : x < 20 := by have := Int.tmod_lt_of_pos a (show (0 : Int) < 20 by decide); omega
        have hy20 : y < 20 := by have := Int.tmod_lt_of_pos b (show (0 : Int) < 20 by decide); omega
        obtain ⟨e0, k1, r1⟩ := vRun_to h0 h1 h2 h3 h4 h5 h6 h7 h8 h9 h10 h11 h12 (.i f0) (.i f1) (.i f2) (m := [.i m0, .i m1, .i m2, .i m3, .i m4, .i m5, .i m6]) rfl (t := .i ((x : Int) + y)) (by simp only [D.int_i]; omega) (by simp only [D.int_i]; omega)
        obtain ⟨e0', k2, r2⟩ := vRun_to h0 h1 h2 h3 h4 h5 h6 h7 h8 h9 h10 h11 h12 (.i f0) (.i f1) (.i f2) (m := [.i m0, .i m1, .i m2, .i m3, .i m4, .i m5, .i m6]) rfl (t := .i (x : Int)) (by simp only [D.int_i]; omega) (by simp only [D.int_i]; omega)
        have mo : MotOkL [.i m0, .i m1, .i m2, .i m3, .i m4, .i m5, .i m6] := by simp only [MotOkL, MotOk, D.int_i]; omega
        have fr : FrcOk (.i f0) (.i f1) (.i f2) := by simp only [FrcOk, D.int_i]; omega
        obtain rfl : e0 = 0 := k1.2 ⟨hu, mo, fr⟩
        obtain rfl : e0' = 0 := k2.2 ⟨hu, mo, fr⟩
        simp only [D.int_i, show ((x : Int) + y).toNat = x + y by omega, Int.toNat_natCast] at r1 r2
        rw [iterM_add] at r1
        have l1 := iterM_len h0 h1 h2 h3 h4 h5 h6 h7 h8 h9 h10 h11 h12 (.i f0) (.i f1) (.i f2) x (s := ([.i m0, .i m1, .i m2, .i m3, .i m4, .i m5, .i m6], 0)) rfl
        have l2 := iterM_ok h0 h1 h2 h3 h4 h5 h6 h7 h8 h9 h10 h11 h12 (.i f0) (.i f1) (.i f2) x (s := ([.i m0, .i m1, .i m2, .i m3, .i m4, .i m5, .i m6], 0)) rfl (fun _ => mo)
        generalize iterM h0 h1 h2 h3 h4 h5 h6 h7 h8 h9 h10 h11 h12 (.i f0) (.i f1) (.i f2) x ([.i m0, .i m1, .i m2, .i m3, .i m4, .i m5, .i m6], 0) = s at *
        have l3 := iterM_len h0 h1 h2 h3 h4 h5 h6 h7 h8 h9 h10 h11 h12 (.i f0) (.i f1) (.i f2) y l1
        obtain ⟨p0, p1, p2, p3, p4, p5, p6, o1, o2⟩ := out_len l1
        obtain ⟨q0, q1, q2, q3, q4, q5, q6, o3, o4⟩ := out_len l3
        refine To.call (l := outM (iterM h0 h1 h2 h3 h4 h5 h6 h7 h8 h9 h10 h11 h12 (.i f0) (.i f1) (.i f2) y s)) ?_ (by rw [o3]; rfl) ?_
        · simp only [X.den, X.dens, X.denss, D.int_i, D.boo_b, D.str_s, D.rows_l, List.getD_cons_zero, List.getD_cons_succ, List.cons_append, List.nil_append, List.append_nil, List.length_cons, List.length_nil, wa, wb, hx, hy]
          exact r1
        rw [o3]
        simp only [List.cons_append, List.nil_append]
        refine To.call (l := outM s) ?_ (by rw [o1]; rfl) ?_
        · simp only [X.den, X.dens, X.denss, D.int_i, D.boo_b, D.str_s, D.rows_l, List.getD_cons_zero, List.getD_cons_succ, List.cons_append, List.nil_append, List.append_nil, List.length_cons, List.length_nil, wa, hx]
          exact r2
        rw [o1]
        simp only [List.cons_append, List.nil_append]
        refine To.ite (fun c2 => ?_) (fun c2 => ?_) <;> simp only [X.den, X.dens, X.denss, D.int_i, D.boo_b, D.str_s, D.rows_l, List.getD_cons_zero, List.getD_cons_succ, List.cons_append, List.nil_append, List.append_nil, List.length_cons, List.length_nil, decide_eq_true_eq, decide_eq_false_iff_not, Bool.not_eq_true', Bool.not_eq_false', Bool.and_eq_true, Bool.and_eq_false_iff, Bool.true_eq_false, Bool.false_eq_true, Bool.not_true, Bool.not_false, eq_self] at c2
        · have hs := o2 c2
          obtain ⟨e0, k3, r3⟩ := vRun_to h0 h1 h2 h3 h4 h5 h6 h7 h8 h9 h10 h11 h12 (.i f0) (.i f1) (.i f2) (m := s.1) l1 (t := .i (y : Int)) (by simp only [D.int_i]; omega) (by simp only [D.int_i]; omega)
          obtain rfl : e0 = 0 := k3.2 ⟨hu, l2 c2, fr⟩
          have es : (s.1, (0 : Int)) = s := by rw [← c2]
          rw [es] at r3
          simp only [D.int_i, Int.toNat_natCast] at r3
          refine To.call (l := outM (iterM h0 h1 h2 h3 h4 h5 h6 h7 h8 h9 h10 h11 h12 (.i f0) (.i f1) (.i f2) y s)) ?_ (by rw [o3]; rfl) ?_
          · simp only [X.den, X.dens, X.denss, D.int_i, D.boo_b, D.str_s, D.rows_l, List.getD_cons_zero, List.getD_cons_succ, List.cons_append, List.nil_append, List.append_nil, List.length_cons, List.length_nil, wb, hy]
            rw [hs] at r3
            exact r3
          rw [o3]
          simp only [List.cons_append, List.nil_append]
          refine To.sub (To.yes (by simp only [X.den, X.dens, X.denss, D.int_i, D.boo_b, D.str_s, D.rows_l, List.getD_cons_zero, List.getD_cons_succ, List.cons_append, List.nil_append, List.append_nil, List.length_cons, List.length_nil, decide_eq_true_eq, decide_eq_false_iff_not, Bool.not_eq_true', Bool.not_eq_false', Bool.and_eq_true, Bool.and_eq_false_iff, Bool.true_eq_false, Bool.false_eq_true, Bool.not_true, Bool.not_false, eq_self]; simp) (To.yes (by simp only [X.den, X.dens, X.denss, D.int_i, D.boo_b, D.str_s, D.rows_l, List.getD_cons_zero, List.getD_cons_succ, List.cons_append, List.nil_append, List.append_nil, List.length_cons, List.length_nil, decide_eq_true_eq, decide_eq_false_iff_not, Bool.not_eq_true', Bool.not_eq_false', Bool.and_eq_true, Bool.and_eq_false_iff, Bool.true_eq_false, Bool.false_eq_true, Bool.not_true, Bool.not_false, eq_self]) (To.call (l := [.b true]) rfl rfl (To.ret ⟨rfl, To.ret ?_⟩))))
          simp only [X.den, X.dens, X.denss, D.int_i, D.boo_b, D.str_s, D.rows_l, List.getD_cons_zero, List.getD_cons_succ, List.cons_append, List.nil_append, List.append_nil, List.length_cons, List.length_nil]
        · have he := iterM_err h0 h1 h2 h3 h4 h5 h6 h7 h8 h9 h10 h11 h12 (.i f0) (.i f1) (.i f2) y c2
          refine To.sub (To.yes (by simp only [X.den, X.dens, X.denss, D.int_i, D.boo_b, D.str_s, D.rows_l, List.getD_cons_zero, List.getD_cons_succ, List.cons_append, List.nil_append, List.append_nil, List.length_cons, List.length_nil, decide_eq_true_eq, decide_eq_false_iff_not, Bool.not_eq_true', Bool.not_eq_false', Bool.and_eq_true, Bool.and_eq_false_iff, Bool.true_eq_false, Bool.false_eq_true, Bool.not_true, Bool.not_false, eq_self]; rw [he]) (To.call (l := [.b true]) rfl rfl (To.ret ⟨rfl, To.ret ?_⟩)))
          simp only [X.den, X.dens, X.denss, D.int_i, D.boo_b, D.str_s, D.rows_l, List.getD_cons_zero, List.getD_cons_succ, List.cons_append, List.nil_append, List.append_nil, List.length_cons, List.length_nil]
      · cases h
    · cases h
theorem VesselSplits_walk {w : World} (v : Value) (zs : List Int) (h : IntsIn w w.heap.size v .i64 zs) (hz : ∀ z ∈ zs, (Lit.int .i64 z).wf = true) (a : Int) (ha : (Lit.int .u8 a).wf = true) (b : Int) (hb : (Lit.int .u8 b).wf = true) : Calls Try.prog 10 #[v, .int .u8 a, .int .u8 b] w fun e w' => e = .returned (.bool true) ∧ Below w.heap.size w w' :=
  con_law VesselSplits_ok rfl (fun G hG => args_ints h hG (args_int (args_int (by trivial)))) (by simp [splits_K]) (ds := [numD zs, .i a, .i b]) (by
    have := bounds_u8 ha
    have := bounds_u8 hb
    exact if_pos (by omega))
end Go.Proofs.Ytcogndnencabhaa
