/- A run of a ship's motion is so many steps, until one fails. -/
import Derived.Test.YtdkamfkpmplaoaaVes
set_option linter.unusedVariables false
set_option linter.unusedSimpArgs false
namespace Go.Proofs.Ytdkamfkpmplaoaa
open Go.RowKit Fx
section
variable (h0 h1 h2 h3 h4 h5 h6 h7 h8 h9 h10 h11 h12 f0 f1 f2 : D)
noncomputable def stepO (m : List D) : List D := (vStep_T.run vsM 0 ([h0, h1, h2, h3, h4, h5, h6, h7, h8, h9, h10, h11, h12] ++ (m ++ [f0, f1, f2]))).getD []
noncomputable def stepM (m : List D) : List D × Int := ((stepO h0 h1 h2 h3 h4 h5 h6 h7 h8 h9 h10 h11 h12 f0 f1 f2 m).take 7, ((stepO h0 h1 h2 h3 h4 h5 h6 h7 h8 h9 h10 h11 h12 f0 f1 f2 m).getD 7 (.i 0)).int)
def MotOkL : List D → Prop
  | [m0, m1, m2, m3, m4, m5, m6] => MotOk m0 m1 m2 m3 m4 m5 m6
  | _ => False
theorem stepM_to {m : List D} (hm : m.length = 7) : vStep_T.run vsM 0 ([h0, h1, h2, h3, h4, h5, h6, h7, h8, h9, h10, h11, h12] ++ (m ++ [f0, f1, f2])) = some ((stepM h0 h1 h2 h3 h4 h5 h6 h7 h8 h9 h10 h11 h12 f0 f1 f2 m).1 ++ [.i (stepM h0 h1 h2 h3 h4 h5 h6 h7 h8 h9 h10 h11 h12 f0 f1 f2 m).2]) ∧
    (stepM h0 h1 h2 h3 h4 h5 h6 h7 h8 h9 h10 h11 h12 f0 f1 f2 m).1.length = 7 ∧ ((stepM h0 h1 h2 h3 h4 h5 h6 h7 h8 h9 h10 h11 h12 f0 f1 f2 m).2 = 0 → MotOkL (stepM h0 h1 h2 h3 h4 h5 h6 h7 h8 h9 h10 h11 h12 f0 f1 f2 m).1) := by
  obtain ⟨m0, m1, m2, m3, m4, m5, m6, rfl⟩ := len7 hm
  obtain ⟨l, e1, n0, n1, n2, n3, n4, n5, n6, e, rfl, hk⟩ := vStep_to h0 h1 h2 h3 h4 h5 h6 h7 h8 h9 h10 h11 h12 m0 m1 m2 m3 m4 m5 m6 f0 f1 f2
  have e1' : vStep_T.run vsM 0 ([h0, h1, h2, h3, h4, h5, h6, h7, h8, h9, h10, h11, h12] ++ ([m0, m1, m2, m3, m4, m5, m6] ++ [f0, f1, f2])) = some [n0, n1, n2, n3, n4, n5, n6, .i e] := e1
  have es : stepO h0 h1 h2 h3 h4 h5 h6 h7 h8 h9 h10 h11 h12 f0 f1 f2 [m0, m1, m2, m3, m4, m5, m6] = [n0, n1, n2, n3, n4, n5, n6, .i e] := by simp only [stepO, e1', Option.getD_some]
  have em : stepM h0 h1 h2 h3 h4 h5 h6 h7 h8 h9 h10 h11 h12 f0 f1 f2 [m0, m1, m2, m3, m4, m5, m6] = ([n0, n1, n2, n3, n4, n5, n6], e) := by simp only [stepM, es]; rfl
  rw [em]
  exact ⟨e1', rfl, hk⟩
noncomputable def iterM : Nat → List D × Int → List D × Int
  | 0, s => s
  | n + 1, s => if s.2 = 0 then iterM n (stepM h0 h1 h2 h3 h4 h5 h6 h7 h8 h9 h10 h11 h12 f0 f1 f2 s.1) else s
theorem iterM_err (n : Nat) {s : List D × Int} (h : s.2 ≠ 0) : iterM h0 h1 h2 h3 h4 h5 h6 h7 h8 h9 h10 h11 h12 f0 f1 f2 n s = s := by
  cases n with
  | zero => rfl
  | succ n => simp only [iterM, if_neg h]
theorem iterM_add (a b : Nat) (s : List D × Int) : iterM h0 h1 h2 h3 h4 h5 h6 h7 h8 h9 h10 h11 h12 f0 f1 f2 (a + b) s = iterM h0 h1 h2 h3 h4 h5 h6 h7 h8 h9 h10 h11 h12 f0 f1 f2 b (iterM h0 h1 h2 h3 h4 h5 h6 h7 h8 h9 h10 h11 h12 f0 f1 f2 a s) := by
  induction a generalizing s with
  | zero => rw [Nat.zero_add]; rfl
  | succ a ih =>
    by_cases h : s.2 = 0
    · rw [Nat.succ_add]
      simp only [iterM, if_pos h]
      exact ih _
    · rw [iterM_err _ _ _ _ _ _ _ _ _ _ _ _ _ _ _ _ _ h, iterM_err _ _ _ _ _ _ _ _ _ _ _ _ _ _ _ _ _ h, iterM_err _ _ _ _ _ _ _ _ _ _ _ _ _ _ _ _ _ h]
theorem iterM_len (n : Nat) {s : List D × Int} (h : s.1.length = 7) : (iterM h0 h1 h2 h3 h4 h5 h6 h7 h8 h9 h10 h11 h12 f0 f1 f2 n s).1.length = 7 := by
  induction n generalizing s with
  | zero => exact h
  | succ n ih =>
    simp only [iterM]
    split
    · exact ih (stepM_to h0 h1 h2 h3 h4 h5 h6 h7 h8 h9 h10 h11 h12 f0 f1 f2 h).2.1
    · exact h
theorem iterM_ok (n : Nat) {s : List D × Int} (h : s.1.length = 7) (h2' : s.2 = 0 → MotOkL s.1) (he : (iterM h0 h1 h2 h3 h4 h5 h6 h7 h8 h9 h10 h11 h12 f0 f1 f2 n s).2 = 0) : MotOkL (iterM h0 h1 h2 h3 h4 h5 h6 h7 h8 h9 h10 h11 h12 f0 f1 f2 n s).1 := by
  induction n generalizing s with
  | zero => exact h2' he
  | succ n ih =>
    simp only [iterM] at he ⊢
    split at he
    · rename_i hs
      rw [if_pos hs]
      have := stepM_to h0 h1 h2 h3 h4 h5 h6 h7 h8 h9 h10 h11 h12 f0 f1 f2 h
      exact ih this.2.1 this.2.2 he
    · rename_i hs
      exact absurd he hs
/-- what a run gives -/
noncomputable def outM (s : List D × Int) : List D := if s.2 = 0 then s.1 ++ [.i 0] else [.i 0, .i 0, .i 0, .i 0, .i 0, .i 0, .i 0, .i s.2]
noncomputable def vrM : Models := Models.on vCheck_K.f (vCheck_T.run vcM 0) (Models.on vStep_K.f (vStep_T.run vsM 0) noM)
theorem vRun_ok : ConOk Try.prog vRun_K (vRun_T.run vrM 500) := con_run follows (one_con (vCheck_ok.to _) (one_con (vStep_ok.to _) no_cons)) vRun_t rfl 500
theorem vRun_to {m : List D} (hm : m.length = 7) {t : D} (t0 : 0 ≤ t.int) (t1 : t.int ≤ 400) : ∃ e0, (e0 = 0 ↔ HullOk h0 h1 h2 h3 h4 h5 h6 h7 h8 h9 h10 h11 h12 ∧ MotOkL m ∧ FrcOk f0 f1 f2) ∧
    vRun_T.run vrM 500 ([h0, h1, h2, h3, h4, h5, h6, h7, h8, h9, h10, h11, h12] ++ (m ++ [f0, f1, f2, t])) = some (outM (iterM h0 h1 h2 h3 h4 h5 h6 h7 h8 h9 h10 h11 h12 f0 f1 f2 t.int.toNat (m, e0))) := by
  obtain ⟨m0, m1, m2, m3, m4, m5, m6, rfl⟩ := len7 hm
  obtain ⟨l, c1, e0, rfl, c2⟩ := vCheck_to h0 h1 h2 h3 h4 h5 h6 h7 h8 h9 h10 h11 h12 m0 m1 m2 m3 m4 m5 m6 f0 f1 f2
  refine ⟨e0, c2, ?_⟩
  suffices H : vRun_T.To vrM 500 [h0, h1, h2, h3, h4, h5, h6, h7, h8, h9, h10, h11, h12, m0, m1, m2, m3, m4, m5, m6, f0, f1, f2, t] (fun xs ρ' => X.dens ρ' xs = outM (iterM h0 h1 h2 h3 h4 h5 h6 h7 h8 h9 h10 h11 h12 f0 f1 f2 t.int.toNat ([m0, m1, m2, m3, m4, m5, m6], e0))) by
    obtain ⟨l, q1, q2⟩ := run_to (R := fun l => l = _) H
    exact q1.trans (by rw [q2])
  unfold vRun_T
  refine To.join (fun l => l = [.b false]) (To.no (by simp only [X.den, X.dens, X.denss, D.int_i, D.boo_b, D.str_s, D.rows_l, List.getD_cons_zero, List.getD_cons_succ, List.cons_append, List.nil_append, List.append_nil, List.length_cons, List.length_nil, decide_eq_true_eq, decide_eq_false_iff_not, Bool.not_eq_true', Bool.not_eq_false', Bool.and_eq_true, Bool.and_eq_false_iff, Bool.true_eq_false, Bool.false_eq_true, Bool.not_true, Bool.not_false, eq_self]; omega) (To.ret ⟨rfl, by simp only [X.den, X.dens, X.denss, D.int_i, D.boo_b, D.str_s, D.rows_l, List.getD_cons_zero, List.getD_cons_succ, List.cons_append, List.nil_append, List.append_nil, List.length_cons, List.length_nil]; rw [decide_eq_false (by omega)]⟩)) ?_
  rintro l rfl
  simp only [List.cons_append, List.nil_append]
  refine To.no rfl (To.call (l := [.i e0]) c1 rfl ?_)
  simp only [List.cons_append, List.nil_append]
  refine To.loop (fun n l => ∃ (k : Nat) (s : List D × Int), l = s.1 ++ [.i s.2, .i k] ∧ s.1.length = 7 ∧ (n : Int) + k = t.int ∧ iterM h0 h1 h2 h3 h4 h5 h6 h7 h8 h9 h10 h11 h12 f0 f1 f2 n s = iterM h0 h1 h2 h3 h4 h5 h6 h7 h8 h9 h10 h11 h12 f0 f1 f2 t.int.toNat ([m0, m1, m2, m3, m4, m5, m6], e0))
      (fun l => l = (iterM h0 h1 h2 h3 h4 h5 h6 h7 h8 h9 h10 h11 h12 f0 f1 f2 t.int.toNat ([m0, m1, m2, m3, m4, m5, m6], e0)).1 ++ [.i (iterM h0 h1 h2 h3 h4 h5 h6 h7 h8 h9 h10 h11 h12 f0 f1 f2 t.int.toNat ([m0, m1, m2, m3, m4, m5, m6], e0)).2]) t.int.toNat (by omega) ?_ ?_ ?_
  · exact ⟨0, ([m0, m1, m2, m3, m4, m5, m6], e0), rfl, rfl, by omega, rfl⟩
  · rintro n l ⟨k, ⟨s1, s2⟩, rfl, hl, hk, hi⟩
    obtain ⟨p0, p1, p2, p3, p4, p5, p6, rfl⟩ := len7 hl
    simp only [List.cons_append, List.nil_append]
    refine To.ite (fun c => ?_) (fun c => ?_) <;> simp only [X.den, X.dens, X.denss, D.int_i, D.boo_b, D.str_s, D.rows_l, List.getD_cons_zero, List.getD_cons_succ, List.cons_append, List.nil_append, List.append_nil, List.length_cons, List.length_nil, decide_eq_true_eq, decide_eq_false_iff_not, Bool.not_eq_true', Bool.not_eq_false', Bool.and_eq_true, Bool.and_eq_false_iff, Bool.true_eq_false, Bool.false_eq_true, Bool.not_true, Bool.not_false, eq_self] at c
    · obtain ⟨n, rfl⟩ := Nat.exists_eq_succ_of_ne_zero (show n ≠ 0 by omega)
      refine To.ite (fun c2 => ?_) (fun c2 => ?_) <;> simp only [X.den, X.dens, X.denss, D.int_i, D.boo_b, D.str_s, D.rows_l, List.getD_cons_zero, List.getD_cons_succ, List.cons_append, List.nil_append, List.append_nil, List.length_cons, List.length_nil, decide_eq_true_eq, decide_eq_false_iff_not, Bool.not_eq_true', Bool.not_eq_false', Bool.and_eq_true, Bool.and_eq_false_iff, Bool.true_eq_false, Bool.false_eq_true, Bool.not_true, Bool.not_false, eq_self] at c2
      · obtain ⟨r1, r2, _⟩ := stepM_to h0 h1 h2 h3 h4 h5 h6 h7 h8 h9 h10 h11 h12 f0 f1 f2 (m := [p0, p1, p2, p3, p4, p5, p6]) rfl
        simp only [iterM, if_pos c2] at hi
        generalize stepM h0 h1 h2 h3 h4 h5 h6 h7 h8 h9 h10 h11 h12 f0 f1 f2 [p0, p1, p2, p3, p4, p5, p6] = sn at *
        obtain ⟨sn1, sn2⟩ := sn
        obtain ⟨r0, r1', r2', r3, r4, r5, r6, rfl⟩ := len7 r2
        refine To.call (l := [r0, r1', r2', r3, r4, r5, r6, .i sn2]) r1 rfl ?_
        simp only [List.cons_append, List.nil_append]
        refine To.ret (.inl ⟨rfl, n, rfl, k + 1, _, ?_, r2, by omega, hi⟩)
        simp only [X.den, X.dens, X.denss, D.int_i, D.boo_b, D.str_s, D.rows_l, List.getD_cons_zero, List.getD_cons_succ, List.cons_append, List.nil_append, List.append_nil, List.length_cons, List.length_nil]
        rw [wr64 (by omega) (by omega)]
        simp
      · refine To.ret (.inr ⟨rfl, ?_⟩)
        rw [← hi, iterM_err _ _ _ _ _ _ _ _ _ _ _ _ _ _ _ _ _ c2]
        simp only [X.den, X.dens, X.denss, D.int_i, D.boo_b, D.str_s, D.rows_l, List.getD_cons_zero, List.getD_cons_succ, List.cons_append, List.nil_append, List.append_nil, List.length_cons, List.length_nil]
    · refine To.ret (.inr ⟨rfl, ?_⟩)
      obtain rfl : n = 0 := by omega
      rw [← hi]
      simp only [X.den, X.dens, X.denss, D.int_i, D.boo_b, D.str_s, D.rows_l, List.getD_cons_zero, List.getD_cons_succ, List.cons_append, List.nil_append, List.append_nil, List.length_cons, List.length_nil, iterM]
  · intro l hl
    have h7 := iterM_len h0 h1 h2 h3 h4 h5 h6 h7 h8 h9 h10 h11 h12 f0 f1 f2 t.int.toNat (s := ([m0, m1, m2, m3, m4, m5, m6], e0)) rfl
    generalize iterM h0 h1 h2 h3 h4 h5 h6 _ h8 h9 h10 h11 h12 f0 f1 f2 t.int.toNat ([m0, m1, m2, m3, m4, m5, m6], e0) = s at *
    obtain ⟨s1, s2⟩ := s
    obtain ⟨p0, p1, p2, p3, p4, p5, p6, rfl⟩ := len7 h7
    subst hl
    refine ⟨rfl, ?_⟩
    simp only [List.cons_append, List.nil_append]
    unfold outM
    refine To.ite (fun c2 => ?_) (fun c2 => ?_) <;> simp only [X.den, X.dens, X.denss, D.int_i, D.boo_b, D.str_s, D.rows_l, List.getD_cons_zero, List.getD_cons_succ, List.cons_append, List.nil_append, List.append_nil, List.length_cons, List.length_nil, decide_eq_true_eq, decide_eq_false_iff_not, Bool.not_eq_true', Bool.not_eq_false', Bool.and_eq_true, Bool.and_eq_false_iff, Bool.true_eq_false, Bool.false_eq_true, Bool.not_true, Bool.not_false, eq_self] at c2
    · rw [if_pos c2]
      exact To.ret (by simp only [X.den, X.dens, X.denss, D.int_i, D.boo_b, D.str_s, D.rows_l, List.getD_cons_zero, List.getD_cons_succ, List.cons_append, List.nil_append, List.append_nil, List.length_cons, List.length_nil])
    · rw [if_neg c2]
      exact To.ret (by simp only [X.den, X.dens, X.denss, D.int_i, D.boo_b, D.str_s, D.rows_l, List.getD_cons_zero, List.getD_cons_succ, List.cons_append, List.nil_append, List.append_nil, List.length_cons, List.length_nil])
end
end Go.Proofs.Ytdkamfkpmplaoaa
