/- Runs in full, in the program and in the reference. -/
import Derived.Test.YtkapaokcgbgjfaaDoorOqm
set_option linter.unusedVariables false
set_option linter.unusedSimpArgs false
namespace Go.Proofs.YtkapaokcgbgjfaaDoor
open Go.RowKit Fx
noncomputable def Nf (b : ByteArray) (k x y ye re dr : Int) (s l z : Int) : Int × Int := (if ckV b k x y ye re dr s l z = 0 then nextV k s l z false else 0, ckV b k x y ye re dr s l z)
/-- the states, and the error -/
def runG (N : Int → Int → Int → Int × Int) : Int → List Int → List Int → List Int × Int
  | s, l :: ls, z :: zs => if (N s l z).2 = 0 then ((N s l z).1 :: (runG N (N s l z).1 ls zs).1, (runG N (N s l z).1 ls zs).2) else ([], (N s l z).2)
  | _, _, _ => ([], 0)
def runOut (N : Int → Int → Int → Int × Int) (s : Int) (ls zs : List Int) : List Int × Int :=
  if ls.length = zs.length then (if 400 < ls.length then ([], 2) else if (runG N s ls zs).2 = 0 then ((runG N s ls zs).1, 0) else ([], (runG N s ls zs).2)) else ([], 8)
theorem runG_len {N : Int → Int → Int → Int × Int} : ∀ {s : Int} {ls zs : List Int}, (runG N s ls zs).1.length ≤ ls.length
  | s, [], zs => by cases zs <;> simp [runG]
  | s, l :: ls, [] => by simp [runG]
  | s, l :: ls, z :: zs => by
    unfold runG
    split
    · simp only [List.length_cons]; have := runG_len (N := N) (s := (N s l z).1) (ls := ls) (zs := zs); omega
    · simp
theorem runOut_len {N : Int → Int → Int → Int × Int} {s : Int} {ls zs : List Int} (h : ls.length ≤ 1000) : (runOut N s ls zs).1.length ≤ 1000 := by
  have := runG_len (N := N) (s := s) (ls := ls) (zs := zs)
  unfold runOut
  split
  · split
    · simp
    · split
      · show (runG N s ls zs).1.length ≤ 1000; omega
      · simp
  · simp
theorem runG_next {N : Int → Int → Int → Int × Int} {s : Int} {ls zs : List Int} {i : Nat} (h1 : i < ls.length) (h2 : i < zs.length) : runG N s (ls.drop i) (zs.drop i) =
    if (N s (ls.getD i 0) (zs.getD i 0)).2 = 0 then ((N s (ls.getD i 0) (zs.getD i 0)).1 :: (runG N (N s (ls.getD i 0) (zs.getD i 0)).1 (ls.drop (i + 1)) (zs.drop (i + 1))).1, (runG N (N s (ls.getD i 0) (zs.getD i 0)).1 (ls.drop (i + 1)) (zs.drop (i + 1))).2) else ([], (N s (ls.getD i 0) (zs.getD i 0)).2) := by
  rw [List.drop_eq_getElem_cons h1, List.drop_eq_getElem_cons h2]
  simp only [runG, List.getD_eq_getElem?_getD, List.getElem?_eq_getElem h1, List.getElem?_eq_getElem h2, Option.getD_some]
theorem runG_nil {N : Int → Int → Int → Int × Int} {s : Int} {ls zs : List Int} {i : Nat} (h : ls.length ≤ i) : runG N s (ls.drop i) (zs.drop i) = ([], 0) := by
  rw [List.drop_eq_nil_of_le h]
  simp [runG]
theorem run_full {b : ByteArray} {k x y ye re dr s : Int} {ls zs : List Int} (h : b.size ≤ 1000) (hm : ls.length ≤ 1000) (hz : zs.length ≤ 1000) :
    ∃ o, opRun_T.run rnM 2000 [.s b, .i k, .i x, .i y, .i ye, .i re, .i dr, .i s, .l (nums ls), .l (nums zs)] = some o ∧ o = [.l (nums (runOut (Nf b k x y ye re dr) s ls zs).1), .i (runOut (Nf b k x y ye re dr) s ls zs).2] := by
  refine run_to ?_
  unfold opRun_T
  (repeat' (first
      
      | (refine To.subK (fun K hK => ?_))
      | (refine To.need (by simp (disch := omega) only [X.den, X.dens, X.denss, D.int_i, D.boo_b, D.str_s, D.rows_l, List.getD_cons_zero, List.getD_cons_succ, List.cons_append, List.nil_append, List.append_nil, List.length_cons, List.length_nil, decide_eq_true_eq, decide_eq_false_iff_not, Bool.not_eq_true', Bool.not_eq_false', Bool.and_eq_true, Bool.and_eq_false_iff, Bool.true_eq_false, Bool.false_eq_true, Bool.not_true, Bool.not_false, eq_self, D.len_l, wr64, not_true_eq_false, not_false_eq_true, nums_len] <;> omega) ?_)
      | (refine To.ite (fun c => ?_) (fun c => ?_) <;> ((try simp (disch := omega) only [X.den, X.dens, X.denss, D.int_i, D.boo_b, D.str_s, D.rows_l, List.getD_cons_zero, List.getD_cons_succ, List.cons_append, List.nil_append, List.append_nil, List.length_cons, List.length_nil, decide_eq_true_eq, decide_eq_false_iff_not, Bool.not_eq_true', Bool.not_eq_false', Bool.and_eq_true, Bool.and_eq_false_iff, Bool.true_eq_false, Bool.false_eq_true, Bool.not_true, Bool.not_false, eq_self, D.len_l, wr64, not_true_eq_false, not_false_eq_true, nums_len] at c) <;> (try (exfalso; omega))))
      | (refine To.ret ⟨rfl, ?_⟩; (try simp (disch := omega) only [X.den, X.dens, X.denss, D.int_i, D.boo_b, D.str_s, D.rows_l, List.getD_cons_zero, List.getD_cons_succ, List.cons_append, List.nil_append, List.append_nil, List.length_cons, List.length_nil, decide_eq_true_eq, decide_eq_false_iff_not, Bool.not_eq_true', Bool.not_eq_false', Bool.and_eq_true, Bool.and_eq_false_iff, Bool.true_eq_false, Bool.false_eq_true, Bool.not_true, Bool.not_false, eq_self, D.len_l, wr64, not_true_eq_false, not_false_eq_true, nums_len]); refine hK _ _ (by simp only [List.cons_append, List.nil_append]; first | done | rfl) ?_; clear hK; clear K)))
  all_goals first
    | (refine To.ret ?_; simp only [X.den, X.dens, X.denss, D.int_i, D.boo_b, D.str_s, D.rows_l, List.getD_cons_zero, List.getD_cons_succ, List.cons_append, List.nil_append, List.append_nil, List.length_cons, List.length_nil, runOut]; first | (rw [if_neg (by omega)]; rfl) | (rw [if_pos (by omega), if_pos (by omega)]; rfl))
    | skip
  all_goals
    refine To.loopK (fun m l => ∃ (i c : Int) (done : List Int), l = [.l (nums (done ++ List.replicate m 0)), .i c, .i i] ∧ i = done.length ∧ i + m = ls.length ∧ (runG (Nf b k x y ye re dr) s ls zs).1 = done ++ (runG (Nf b k x y ye re dr) c (ls.drop done.length) (zs.drop done.length)).1 ∧ (runG (Nf b k x y ye re dr) s ls zs).2 = (runG (Nf b k x y ye re dr) c (ls.drop done.length) (zs.drop done.length)).2)
      (fun l => (l = [.i 1, .l (nums (runG (Nf b k x y ye re dr) s ls zs).1), .i 0] ∧ (runG (Nf b k x y ye re dr) s ls zs).2 = 0) ∨ ∃ d e, l = [.i 0, d, .i e] ∧ ¬ e = 0 ∧ (runG (Nf b k x y ye re dr) s ls zs).2 = e) ls.length (by omega) ?_ ?_ ?_
    · refine ⟨0, s, [], ?_, rfl, by omega, by simp, by simp⟩
      simp only [X.den, X.dens, X.denss, D.int_i, D.boo_b, D.str_s, D.rows_l, List.getD_cons_zero, List.getD_cons_succ, List.cons_append, List.nil_append, List.append_nil, List.length_cons, List.length_nil, D.len_l, nums_len]
      rw [show (min (ls.length : Int) 9223372036854775807).toNat = ls.length by omega, nums_rep]
    · rintro m l ρ2 ⟨i, c, done, rfl, i0, i1, hr, hr2⟩ eρ
      simp only [List.cons_append, List.nil_append] at eρ
      subst eρ
      refine To.ite (fun q => ?_) (fun q => ?_) <;> simp only [X.den, X.dens, X.denss, D.int_i, D.boo_b, D.str_s, D.rows_l, List.getD_cons_zero, List.getD_cons_succ, List.cons_append, List.nil_append, List.append_nil, List.length_cons, List.length_nil, decide_eq_true_eq, decide_eq_false_iff_not, Bool.not_eq_true', Bool.not_eq_false', Bool.and_eq_true, Bool.and_eq_false_iff, Bool.true_eq_false, Bool.false_eq_true, Bool.not_true, Bool.not_false, eq_self, D.len_l, nums_len] at q
      · refine To.need (by simp only [X.den, X.dens, X.denss, D.int_i, D.boo_b, D.str_s, D.rows_l, List.getD_cons_zero, List.getD_cons_succ, List.cons_append, List.nil_append, List.append_nil, List.length_cons, List.length_nil, decide_eq_true_eq, decide_eq_false_iff_not, Bool.not_eq_true', Bool.not_eq_false', Bool.and_eq_true, Bool.and_eq_false_iff, Bool.true_eq_false, Bool.false_eq_true, Bool.not_true, Bool.not_false, eq_self, D.len_l, nums_len]; omega) ?_
        refine To.need (by simp only [X.den, X.dens, X.denss, D.int_i, D.boo_b, D.str_s, D.rows_l, List.getD_cons_zero, List.getD_cons_succ, List.cons_append, List.nil_append, List.append_nil, List.length_cons, List.length_nil, decide_eq_true_eq, decide_eq_false_iff_not, Bool.not_eq_true', Bool.not_eq_false', Bool.and_eq_true, Bool.and_eq_false_iff, Bool.true_eq_false, Bool.false_eq_true, Bool.not_true, Bool.not_false, eq_self, D.len_l, nums_len]; omega) ?_
        have c1 := nums_cell (xs := ls) (i := i) (by omega) (by omega)
        have c2 := nums_cell (xs := zs) (i := i) (by omega) (by omega)
        refine To.viaK (by (try simp (disch := omega) only [X.den, X.dens, X.denss, D.int_i, D.boo_b, D.str_s, D.rows_l, List.getD_cons_zero, List.getD_cons_succ, List.cons_append, List.nil_append, List.append_nil, List.length_cons, List.length_nil, decide_eq_true_eq, decide_eq_false_iff_not, Bool.not_eq_true', Bool.not_eq_false', Bool.and_eq_true, Bool.and_eq_false_iff, Bool.true_eq_false, Bool.false_eq_true, Bool.not_true, Bool.not_false, eq_self, D.len_l, wr64, not_true_eq_false, not_false_eq_true, c1, c2]); exact next_to h) ?_
        rintro _ ρ2 rfl eρ
        refine ⟨rfl, ?_⟩
        simp only [List.cons_append, List.nil_append] at eρ
        subst eρ
        have en : i.toNat = done.length := by omega
        rw [runG_next (by omega) (by omega), ← en] at hr hr2
        have eN : Nf b k x y ye re dr c (ls.getD i.toNat 0) (zs.getD i.toNat 0) = (if ckV b k x y ye re dr c (ls.getD i.toNat 0) (zs.getD i.toNat 0) = 0 then nextV k c (ls.getD i.toNat 0) (zs.getD i.toNat 0) false else 0, ckV b k x y ye re dr c (ls.getD i.toNat 0) (zs.getD i.toNat 0)) := rfl
        rw [eN] at hr hr2
        generalize (if ckV b k x y ye re dr c (ls.getD i.toNat 0) (zs.getD i.toNat 0) = 0 then nextV k c (ls.getD i.toNat 0) (zs.getD i.toNat 0) false else 0) = v at hr hr2 ⊢
        generalize ckV b k x y ye re dr c (ls.getD i.toNat 0) (zs.getD i.toNat 0) = e at hr hr2 ⊢
        refine To.ite (fun q => ?_) (fun q => ?_) <;> simp only [X.den, X.dens, X.denss, D.int_i, D.boo_b, D.str_s, D.rows_l, List.getD_cons_zero, List.getD_cons_succ, List.cons_append, List.nil_append, List.append_nil, List.length_cons, List.length_nil, decide_eq_true_eq, decide_eq_false_iff_not, Bool.not_eq_true', Bool.not_eq_false', Bool.and_eq_true, Bool.and_eq_false_iff, Bool.true_eq_false, Bool.false_eq_true, Bool.not_true, Bool.not_false, eq_self] at q
        · subst q
          simp only [if_true] at hr hr2
          refine To.need (by simp only [X.den, X.dens, X.denss, D.int_i, D.boo_b, D.str_s, D.rows_l, List.getD_cons_zero, List.getD_cons_succ, List.cons_append, List.nil_append, List.append_nil, List.length_cons, List.length_nil, decide_eq_true_eq, decide_eq_false_iff_not, Bool.not_eq_true', Bool.not_eq_false', Bool.and_eq_true, Bool.and_eq_false_iff, Bool.true_eq_false, Bool.false_eq_true, Bool.not_true, Bool.not_false, eq_self, D.len_l, nums_len, List.length_append, List.length_replicate]; omega) ?_
          refine To.ret (.inl ⟨rfl, m - 1, by omega, i + 1, v, done ++ [v], ?_, ?_, ?_, ?_, ?_⟩)
          · simp (disch := omega) only [X.den, X.dens, X.denss, D.int_i, D.boo_b, D.str_s, D.rows_l, List.getD_cons_zero, List.getD_cons_succ, List.cons_append, List.nil_append, List.append_nil, List.length_cons, List.length_nil, wr64]
            rw [nums_put (by omega) (by rw [List.length_append, List.length_replicate]; omega), en, set_rep (by omega)]
          · rw [List.length_append, List.length_singleton]; omega
          · omega
          · rw [hr, List.length_append, List.length_singleton, en]
            simp
          · rw [hr2, List.length_append, List.length_singleton, en]
        · simp only [if_neg q] at hr2
          exact To.ret (.inr ⟨rfl, .inr ⟨_, e, by simp only [X.den, X.dens, X.denss, D.int_i, D.boo_b, D.str_s, D.rows_l, List.getD_cons_zero, List.getD_cons_succ, List.cons_append, List.nil_append, List.append_nil, List.length_cons, List.length_nil]; rfl, q, hr2⟩⟩)
      · rw [runG_nil (by omega)] at hr hr2
        have em : m = 0 := by omega
        subst em
        refine To.ret (.inr ⟨rfl, .inl ⟨?_, hr2⟩⟩)
        rw [hr]
        simp [X.dens, X.den]
    · rintro l ρ2 (⟨rfl, h2⟩ | ⟨d, e, rfl, h1, h2⟩) eρ <;> (simp only [List.cons_append, List.nil_append] at eρ; subst eρ)
      · refine ⟨rfl, To.no rfl (To.ret ?_)⟩
        simp only [X.den, X.dens, X.denss, D.int_i, D.boo_b, D.str_s, D.rows_l, List.getD_cons_zero, List.getD_cons_succ, List.cons_append, List.nil_append, List.append_nil, List.length_cons, List.length_nil, runOut]
        rw [if_pos (by omega), if_neg (by omega), if_pos h2]
      · refine ⟨rfl, To.yes rfl (To.ret ?_)⟩
        simp only [X.den, X.dens, X.denss, D.int_i, D.boo_b, D.str_s, D.rows_l, List.getD_cons_zero, List.getD_cons_succ, List.cons_append, List.nil_append, List.append_nil, List.length_cons, List.length_nil, runOut]
        rw [if_pos (by omega), if_neg (by omega), if_neg (by omega), h2]
        rfl
noncomputable def rrnM : Models := Models.on roNext_K.f (roNext_T.run rnxM 0) noM
theorem roRun_ok : ConOk Tryd.prog roRun_K (roRun_T.run rrnM 2000) := con_run follows (one_con (roNext_ok.to _) no_cons) roRun_t rfl 2000
theorem rrun_full {b : ByteArray} {k x y ye re dr s : Int} {ls zs : List Int} (h : b.size ≤ 1000) (hm : ls.length ≤ 1000) (hz : zs.length ≤ 1000) :
    ∃ o, roRun_T.run rrnM 2000 [.s b, .i k, .i x, .i y, .i ye, .i re, .i dr, .i s, .l (nums ls), .l (nums zs)] = some o ∧ o = [.l (nums (runOut (Nf b k x y ye re dr) s ls zs).1), .i (runOut (Nf b k x y ye re dr) s ls zs).2] := by
  refine run_to ?_
  unfold roRun_T
  (repeat' (first
      
      | (refine To.subK (fun K hK => ?_))
      | (refine To.need (by simp (disch := omega) only [X.den, X.dens, X.denss, D.int_i, D.boo_b, D.str_s, D.rows_l, List.getD_cons_zero, List.getD_cons_succ, List.cons_append, List.nil_append, List.append_nil, List.length_cons, List.length_nil, decide_eq_true_eq, decide_eq_false_iff_not, Bool.not_eq_true', Bool.not_eq_false', Bool.and_eq_true, Bool.and_eq_false_iff, Bool.true_eq_false, Bool.false_eq_true, Bool.not_true, Bool.not_false, eq_self, D.len_l, wr64, not_true_eq_false, not_false_eq_true, nums_len] <;> omega) ?_)
      | (refine To.ite (fun c => ?_) (fun c => ?_) <;> ((try simp (disch := omega) only [X.den, X.dens, X.denss, D.int_i, D.boo_b, D.str_s, D.rows_l, List.getD_cons_zero, List.getD_cons_succ, List.cons_append, List.nil_append, List.append_nil, List.length_cons, List.length_nil, decide_eq_true_eq, decide_eq_false_iff_not, Bool.not_eq_true', Bool.not_eq_false', Bool.and_eq_true, Bool.and_eq_false_iff, Bool.true_eq_false, Bool.false_eq_true, Bool.not_true, Bool.not_false, eq_self, D.len_l, wr64, not_true_eq_false, not_false_eq_true, nums_len] at c) <;> (try (exfalso; omega))))
      | (refine To.ret ⟨rfl, ?_⟩; (try simp (disch := omega) only [X.den, X.dens, X.denss, D.int_i, D.boo_b, D.str_s, D.rows_l, List.getD_cons_zero, List.getD_cons_succ, List.cons_append, List.nil_append, List.append_nil, List.length_cons, List.length_nil, decide_eq_true_eq, decide_eq_false_iff_not, Bool.not_eq_true', Bool.not_eq_false', Bool.and_eq_true, Bool.and_eq_false_iff, Bool.true_eq_false, Bool.false_eq_true, Bool.not_true, Bool.not_false, eq_self, D.len_l, wr64, not_true_eq_false, not_false_eq_true, nums_len]); refine hK _ _ (by simp only [List.cons_append, List.nil_append]; first | done | rfl) ?_; clear hK; clear K)))
  all_goals first
    | (refine To.ret ?_; simp only [X.den, X.dens, X.denss, D.int_i, D.boo_b, D.str_s, D.rows_l, List.getD_cons_zero, List.getD_cons_succ, List.cons_append, List.nil_append, List.append_nil, List.length_cons, List.length_nil, runOut]; first | (rw [if_neg (by omega)]; rfl) | (rw [if_pos (by omega), if_pos (by omega)]; rfl))
    | skip
  all_goals
    refine To.loopK (fun m l => ∃ (i c : Int) (done : List Int), l = [.l (nums done), .i c, .i i] ∧ i = done.length ∧ i + m = ls.length ∧ (runG (Nf b k x y ye re dr) s ls zs).1 = done ++ (runG (Nf b k x y ye re dr) c (ls.drop done.length) (zs.drop done.length)).1 ∧ (runG (Nf b k x y ye re dr) s ls zs).2 = (runG (Nf b k x y ye re dr) c (ls.drop done.length) (zs.drop done.length)).2)
      (fun l => (l = [.i 1, .l (nums (runG (Nf b k x y ye re dr) s ls zs).1), .i 0] ∧ (runG (Nf b k x y ye re dr) s ls zs).2 = 0) ∨ ∃ d e, l = [.i 0, d, .i e] ∧ ¬ e = 0 ∧ (runG (Nf b k x y ye re dr) s ls zs).2 = e) ls.length (by omega) ?_ ?_ ?_
    · exact ⟨0, s, [], by simp only [X.den, X.dens, X.denss, D.int_i, D.boo_b, D.str_s, D.rows_l, List.getD_cons_zero, List.getD_cons_succ, List.cons_append, List.nil_append, List.append_nil, List.length_cons, List.length_nil]; rfl, rfl, by omega, by simp, by simp⟩
    · rintro m l ρ2 ⟨i, c, done, rfl, i0, i1, hr, hr2⟩ eρ
      simp only [List.cons_append, List.nil_append] at eρ
      subst eρ
      refine To.ite (fun q => ?_) (fun q => ?_) <;> simp only [X.den, X.dens, X.denss, D.int_i, D.boo_b, D.str_s, D.rows_l, List.getD_cons_zero, List.getD_cons_succ, List.cons_append, List.nil_append, List.append_nil, List.length_cons, List.length_nil, decide_eq_true_eq, decide_eq_false_iff_not, Bool.not_eq_true', Bool.not_eq_false', Bool.and_eq_true, Bool.and_eq_false_iff, Bool.true_eq_false, Bool.false_eq_true, Bool.not_true, Bool.not_false, eq_self, D.len_l, nums_len] at q
      · refine To.need (by simp only [X.den, X.dens, X.denss, D.int_i, D.boo_b, D.str_s, D.rows_l, List.getD_cons_zero, List.getD_cons_succ, List.cons_append, List.nil_append, List.append_nil, List.length_cons, List.length_nil, decide_eq_true_eq, decide_eq_false_iff_not, Bool.not_eq_true', Bool.not_eq_false', Bool.and_eq_true, Bool.and_eq_false_iff, Bool.true_eq_false, Bool.false_eq_true, Bool.not_true, Bool.not_false, eq_self, D.len_l, nums_len]; omega) ?_
        refine To.need (by simp only [X.den, X.dens, X.denss, D.int_i, D.boo_b, D.str_s, D.rows_l, List.getD_cons_zero, List.getD_cons_succ, List.cons_append, List.nil_append, List.append_nil, List.length_cons, List.length_nil, decide_eq_true_eq, decide_eq_false_iff_not, Bool.not_eq_true', Bool.not_eq_false', Bool.and_eq_true, Bool.and_eq_false_iff, Bool.true_eq_false, Bool.false_eq_true, Bool.not_true, Bool.not_false, eq_self, D.len_l, nums_len]; omega) ?_
        have c1 := nums_cell (xs := ls) (i := i) (by omega) (by omega)
        have c2 := nums_cell (xs := zs) (i := i) (by omega) (by omega)
        refine To.viaK (by (try simp (disch := omega) only [X.den, X.dens, X.denss, D.int_i, D.boo_b, D.str_s, D.rows_l, List.getD_cons_zero, List.getD_cons_succ, List.cons_append, List.nil_append, List.append_nil, List.length_cons, List.length_nil, decide_eq_true_eq, decide_eq_false_iff_not, Bool.not_eq_true', Bool.not_eq_false', Bool.and_eq_true, Bool.and_eq_false_iff, Bool.true_eq_false, Bool.false_eq_true, Bool.not_true, Bool.not_false, eq_self, D.len_l, wr64, not_true_eq_false, not_false_eq_true, c1, c2]); exact rnext_to h) ?_
        rintro _ ρ2 rfl eρ
        refine ⟨rfl, ?_⟩
        simp only [List.cons_append, List.nil_append] at eρ
        subst eρ
        have en : i.toNat = done.length := by omega
        rw [runG_next (by omega) (by omega), ← en] at hr hr2
        have eN : Nf b k x y ye re dr c (ls.getD i.toNat 0) (zs.getD i.toNat 0) = (if ckV b k x y ye re dr c (ls.getD i.toNat 0) (zs.getD i.toNat 0) = 0 then nextV k c (ls.getD i.toNat 0) (zs.getD i.toNat 0) false else 0, ckV b k x y ye re dr c (ls.getD i.toNat 0) (zs.getD i.toNat 0)) := rfl
        rw [eN] at hr hr2
        generalize (if ckV b k x y ye re dr c (ls.getD i.toNat 0) (zs.getD i.toNat 0) = 0 then nextV k c (ls.getD i.toNat 0) (zs.getD i.toNat 0) false else 0) = v at hr hr2 ⊢
        generalize ckV b k x y ye re dr c (ls.getD i.toNat 0) (zs.getD i.toNat 0) = e at hr hr2 ⊢
        refine To.ite (fun q => ?_) (fun q => ?_) <;> simp only [X.den, X.dens, X.denss, D.int_i, D.boo_b, D.str_s, D.rows_l, List.getD_cons_zero, List.getD_cons_succ, List.cons_append, List.nil_append, List.append_nil, List.length_cons, List.length_nil, decide_eq_true_eq, decide_eq_false_iff_not, Bool.not_eq_true', Bool.not_eq_false', Bool.and_eq_true, Bool.and_eq_false_iff, Bool.true_eq_false, Bool.false_eq_true, Bool.not_true, Bool.not_false, eq_self] at q
        · subst q
          simp only [if_true] at hr hr2
          refine To.need (by simp only [X.den, X.dens, X.denss, D.int_i, D.boo_b, D.str_s, D.rows_l, List.getD_cons_zero, List.getD_cons_succ, List.cons_append, List.nil_append, List.append_nil, List.length_cons, List.length_nil, decide_eq_true_eq, decide_eq_false_iff_not, Bool.not_eq_true', Bool.not_eq_false', Bool.and_eq_true, Bool.and_eq_false_iff, Bool.true_eq_false, Bool.false_eq_true, Bool.not_true, Bool.not_false, eq_self, D.len_l, nums_len]; omega) ?_
          refine To.ret (.inl ⟨rfl, m - 1, by omega, i + 1, v, done ++ [v], ?_, ?_, ?_, ?_, ?_⟩)
          · simp (disch := omega) only [X.den, X.dens, X.denss, D.int_i, D.boo_b, D.str_s, D.rows_l, List.getD_cons_zero, List.getD_cons_succ, List.cons_append, List.nil_append, List.append_nil, List.length_cons, List.length_nil, wr64]
            rw [nums_one, nums_app]
          · rw [List.length_append, List.length_singleton]; omega
          · omega
          · rw [hr, List.length_append, List.length_singleton, en]
            simp
          · rw [hr2, List.length_append, List.length_singleton, en]
        · simp only [if_neg q] at hr2
          exact To.ret (.inr ⟨rfl, .inr ⟨_, e, by simp only [X.den, X.dens, X.denss, D.int_i, D.boo_b, D.str_s, D.rows_l, List.getD_cons_zero, List.getD_cons_succ, List.cons_append, List.nil_append, List.append_nil, List.length_cons, List.length_nil]; rfl, q, hr2⟩⟩)
      · rw [runG_nil (by omega)] at hr hr2
        refine To.ret (.inr ⟨rfl, .inl ⟨?_, hr2⟩⟩)
        rw [hr]
        simp [X.dens, X.den]
    · rintro l ρ2 (⟨rfl, h2⟩ | ⟨d, e, rfl, h1, h2⟩) eρ <;> (simp only [List.cons_append, List.nil_append] at eρ; subst eρ)
      · refine ⟨rfl, To.no rfl (To.ret ?_)⟩
        simp only [X.den, X.dens, X.denss, D.int_i, D.boo_b, D.str_s, D.rows_l, List.getD_cons_zero, List.getD_cons_succ, List.cons_append, List.nil_append, List.append_nil, List.length_cons, List.length_nil, runOut]
        rw [if_pos (by omega), if_neg (by omega), if_pos h2]
      · refine ⟨rfl, To.yes rfl (To.ret ?_)⟩
        simp only [X.den, X.dens, X.denss, D.int_i, D.boo_b, D.str_s, D.rows_l, List.getD_cons_zero, List.getD_cons_succ, List.cons_append, List.nil_append, List.append_nil, List.length_cons, List.length_nil, runOut]
        rw [if_pos (by omega), if_neg (by omega), if_neg (by omega), h2]
        rfl
end Go.Proofs.YtkapaokcgbgjfaaDoor
