/- Ships, their thrusts and what these add up to. -/
import Derived.Test.YtladhlgibapohaaSumT
import Derived.Test.YtladhlgibapohaaThr
set_option linter.unusedVariables false
set_option linter.unusedSimpArgs false
namespace Go.Proofs.Ytladhlgibapohaa
open Go.RowKit Fx
def srcSM : Models := Models.on srcN_K.f (srcN_T.run noM 0) (Models.on srcThr_K.f (srcThr_T.run srcM12 10) noM)
theorem srcShip_ok : ConOk Try.prog srcShip_K (srcShip_T.run srcSM 20) := con_run follows (one_con (srcN_ok.to _) (one_con (srcThr_ok.to _) no_cons)) srcShip_t rfl 20
theorem srcThs_ok : ConOk Try.prog srcThs_K (srcThs_T.run srcM12 20) := con_run follows (one_con (srcN_ok.to _) no_cons) srcThs_t rfl 20
theorem tCheck_ok : ConOk Try.prog tCheck_K (tCheck_T.run pwM 20) := con_run follows (one_con (sValid_ok.to _) no_cons) tCheck_t rfl 20
def ttM : Models := Models.on tCheck_K.f (tCheck_T.run pwM 20) noM
theorem tTotal_ok : ConOk Try.prog tTotal_K (tTotal_T.run ttM 20) := con_run follows (one_con (tCheck_ok.to _) no_cons) tTotal_t rfl 20
def tmoM : Models := Models.on tTotal_K.f (tTotal_T.run ttM 20) noM
theorem tMoment_ok : ConOk Try.prog tMoment_K (tMoment_T.run tmoM 0) := con_run follows (one_con (tTotal_ok.to _) no_cons) tMoment_t rfl 0
def ThRow (r : List D) : Prop := ∃ k st mx rt co arcs, r = [.i k, .i st, .i mx, .i rt, .i co, .l arcs] ∧ ThrOk k st mx rt co arcs
def TsRow (r : List D) : Prop := ∃ x y, r = [.i x, .i y] ∧ (-20 ≤ x ∧ x ≤ 20) ∧ -20 ≤ y ∧ y ≤ 20
theorem cell_lt {l : List (List D)} {r : List D} {i : Nat} {c : Nat} (h : i < l.length) : (D.l (l ++ [r])).cell i c = (D.l l).cell i c := by
  rw [cell_of, cell_of, Int.toNat_natCast, List.getD_eq_getElem?_getD (l := l ++ [r]), List.getElem?_append_left h, ← List.getD_eq_getElem?_getD (l := l)]
theorem cell_eq {l : List (List D)} {r : List D} {c : Nat} : (D.l (l ++ [r])).cell (l.length : Int) c = r.getD c (.i 0) := by
  rw [cell_of, Int.toNat_natCast, List.getD_eq_getElem?_getD (l := l ++ [r]), List.getElem?_append_right (Nat.le_refl _), Nat.sub_self]
  rfl
theorem getD_memN {fs : List (List D)} {k : Nat} (h1 : k < fs.length) : fs.getD k [] ∈ fs := by
  rw [List.getD_eq_getElem?_getD, List.getElem?_eq_getElem h1, Option.getD_some]
  exact List.getElem_mem _
/-- sums of the first so many thrusts: ahead, and sideways at the bow and at the stern -/
def sx (fs : List (List D)) : Nat → Int
  | 0 => 0
  | k + 1 => sx fs k + ((D.l fs).cell k 0).int
def sb (ts fs : List (List D)) : Nat → Int
  | 0 => 0
  | k + 1 => sb ts fs k + if ((D.l ts).cell k 1).int = 0 then ((D.l fs).cell k 1).int else 0
def ss (ts fs : List (List D)) : Nat → Int
  | 0 => 0
  | k + 1 => ss ts fs k + if ((D.l ts).cell k 1).int = 0 then 0 else ((D.l fs).cell k 1).int
theorem ts_cell {fs : List (List D)} (hf : ∀ r ∈ fs, TsRow r) {k : Nat} (h : k < fs.length) : ∃ x y, (D.l fs).cell k 0 = .i x ∧ (D.l fs).cell k 1 = .i y ∧ (-20 ≤ x ∧ x ≤ 20) ∧ -20 ≤ y ∧ y ≤ 20 := by
  obtain ⟨x, y, e, h1, h2⟩ := hf _ (getD_memN h)
  exact ⟨x, y, by rw [cell_of, Int.toNat_natCast, e]; rfl, by rw [cell_of, Int.toNat_natCast, e]; rfl, h1, h2⟩
theorem th_cell {ts : List (List D)} (ht : ∀ r ∈ ts, ThRow r) {j : Nat} (h : j < ts.length) : ∃ k st mx rt co arcs, (D.l ts).cell j 0 = .i k ∧ (D.l ts).cell j 1 = .i st ∧ (D.l ts).cell j 2 = .i mx ∧ (D.l ts).cell j 3 = .i rt ∧ (D.l ts).cell j 4 = .i co ∧ (D.l ts).cell j 5 = .l arcs ∧ ThrOk k st mx rt co arcs := by
  obtain ⟨k, st, mx, rt, co, arcs, e, h1⟩ := ht _ (getD_memN h)
  exact ⟨k, st, mx, rt, co, arcs, by rw [cell_of, Int.toNat_natCast, e]; rfl, by rw [cell_of, Int.toNat_natCast, e]; rfl, by rw [cell_of, Int.toNat_natCast, e]; rfl, by rw [cell_of, Int.toNat_natCast, e]; rfl, by rw [cell_of, Int.toNat_natCast, e]; rfl, by rw [cell_of, Int.toNat_natCast, e]; rfl, h1⟩
theorem sums_rng {ts fs : List (List D)} (hf : ∀ r ∈ fs, TsRow r) : ∀ k : Nat, k ≤ fs.length → (-20 * (k : Int) ≤ sx fs k ∧ sx fs k ≤ 20 * k) ∧ (-20 * (k : Int) ≤ sb ts fs k ∧ sb ts fs k ≤ 20 * k) ∧ (-20 * (k : Int) ≤ ss ts fs k ∧ ss ts fs k ≤ 20 * k)
  | 0, _ => by simp [sx, sb, ss]
  | k + 1, h => by
    obtain ⟨h1, h2, h3⟩ := sums_rng (ts := ts) hf k (by omega)
    obtain ⟨x, y, c0, c1, hx, hy⟩ := ts_cell hf (show k < fs.length by omega)
    simp only [sx, sb, ss, c0, c1, D.int_i]
    split <;> omega
theorem prod_rng {a b A B : Int} (a0 : 0 ≤ a) (a1 : a ≤ A) (b0 : -B ≤ b) (b1 : b ≤ B) (hB : 0 ≤ B) : -(A * B) ≤ a * b ∧ a * b ≤ A * B := by
  have h1 := Int.mul_le_mul_of_nonneg_left b1 a0
  have h2 := Int.mul_le_mul_of_nonneg_left b0 a0
  have h3 := Int.mul_le_mul_of_nonneg_right a1 hB
  have h4 : a * -B = -(a * B) := Int.mul_neg a B
  omega
theorem srcShip_to {rows : List (List D)} {at_ n : Int} (h : SrcOk rows at_) (n0 : 0 ≤ n) (n1 : n ≤ 8) :
    ∃ l, srcShip_T.run srcSM 20 [.l rows, .i at_, .i n] = some l ∧ ∃ bow stern ts at', l = [.i bow, .i stern, .l ts, .l rows, .i at'] ∧ (0 ≤ bow ∧ bow ≤ 60) ∧ (1 ≤ stern ∧ stern ≤ 40) ∧ (ts.length : Int) ≤ n ∧ (∀ r ∈ ts, ThRow r) ∧ SrcOk rows at' := by
  refine run_to ?_
  unfold srcShip_T
  refine To.viaK (by (try simp (disch := omega) only [X.den, X.dens, X.denss, D.int_i, D.boo_b, D.str_s, D.rows_l, List.getD_cons_zero, List.getD_cons_succ, List.cons_append, List.nil_append, List.append_nil, List.length_cons, List.length_nil, decide_eq_true_eq, decide_eq_false_iff_not, Bool.not_eq_true', Bool.not_eq_false', Bool.and_eq_true, Bool.and_eq_false_iff, Bool.true_eq_false, Bool.false_eq_true, Bool.not_true, Bool.not_false, eq_self, D.len_l, wr64, not_true_eq_false, not_false_eq_true]); exact srcN_to h (by omega) (by omega)) ?_
  rintro _ ρ2 ⟨r1, t1, rfl, p1, q1, h1⟩ eρ
  refine ⟨rfl, ?_⟩
  simp only [List.cons_append, List.nil_append] at eρ
  subst eρ
  refine To.need (by simp only [X.den, X.dens, X.denss, D.int_i, D.boo_b, D.str_s, D.rows_l, List.getD_cons_zero, List.getD_cons_succ, List.cons_append, List.nil_append, List.append_nil, List.length_cons, List.length_nil, decide_eq_true_eq, decide_eq_false_iff_not, Bool.not_eq_true', Bool.not_eq_false', Bool.and_eq_true, Bool.and_eq_false_iff, Bool.true_eq_false, Bool.false_eq_true, Bool.not_true, Bool.not_false, eq_self]; omega) ?_
  refine To.viaK (by (try simp (disch := omega) only [X.den, X.dens, X.denss, D.int_i, D.boo_b, D.str_s, D.rows_l, List.getD_cons_zero, List.getD_cons_succ, List.cons_append, List.nil_append, List.append_nil, List.length_cons, List.length_nil, decide_eq_true_eq, decide_eq_false_iff_not, Bool.not_eq_true', Bool.not_eq_false', Bool.and_eq_true, Bool.and_eq_false_iff, Bool.true_eq_false, Bool.false_eq_true, Bool.not_true, Bool.not_false, eq_self, D.len_l, wr64, not_true_eq_false, not_false_eq_true]); exact srcN_to h1 (by omega) (by omega)) ?_
  rintro _ ρ2 ⟨r2, t2, rfl, p2, q2, h2⟩ eρ
  refine ⟨rfl, ?_⟩
  simp only [List.cons_append, List.nil_append] at eρ
  subst eρ
  refine To.need (by simp only [X.den, X.dens, X.denss, D.int_i, D.boo_b, D.str_s, D.rows_l, List.getD_cons_zero, List.getD_cons_succ, List.cons_append, List.nil_append, List.append_nil, List.length_cons, List.length_nil, decide_eq_true_eq, decide_eq_false_iff_not, Bool.not_eq_true', Bool.not_eq_false', Bool.and_eq_true, Bool.and_eq_false_iff, Bool.true_eq_false, Bool.false_eq_true, Bool.not_true, Bool.not_false, eq_self]; omega) ?_
  refine To.viaK (by (try simp (disch := omega) only [X.den, X.dens, X.denss, D.int_i, D.boo_b, D.str_s, D.rows_l, List.getD_cons_zero, List.getD_cons_succ, List.cons_append, List.nil_append, List.append_nil, List.length_cons, List.length_nil, decide_eq_true_eq, decide_eq_false_iff_not, Bool.not_eq_true', Bool.not_eq_false', Bool.and_eq_true, Bool.and_eq_false_iff, Bool.true_eq_false, Bool.false_eq_true, Bool.not_true, Bool.not_false, eq_self, D.len_l, wr64, not_true_eq_false, not_false_eq_true]); exact srcN_to h2 (by omega) (by omega)) ?_
  rintro _ ρ2 ⟨r3, t3, rfl, p3, q3, h3⟩ eρ
  refine ⟨rfl, ?_⟩
  simp only [List.cons_append, List.nil_append] at eρ
  subst eρ
  obtain ⟨a, ha, ea⟩ := pick_cell (zs := [0, 1, 30, 60]) p1 q1
  have ea : (D.l [[.i 0], [.i 1], [.i 30], [.i 60]]).cell r1 0 = .i a := ea
  obtain ⟨b, hb, eb⟩ := pick_cell (zs := [1, 25, 40]) p2 q2
  have eb : (D.l [[.i 1], [.i 25], [.i 40]]).cell r2 0 = .i b := eb
  simp only [List.mem_cons, List.not_mem_nil, or_false] at ha hb
  refine To.loopK (fun m l => ∃ ts at_ k, l = [.l ts, .l rows, .i at_, .i k] ∧ SrcOk rows at_ ∧ k = m ∧ k + ts.length ≤ n ∧ ∀ r ∈ ts, ThRow r) (fun l => ∃ ts at_, l = [.l ts, .l rows, .i at_] ∧ SrcOk rows at_ ∧ (ts.length : Int) ≤ n ∧ ∀ r ∈ ts, ThRow r) r3.toNat (by omega) ?_ ?_ ?_
  · exact ⟨[], t3, r3, by simp only [X.den, X.dens, X.denss, D.int_i, D.boo_b, D.str_s, D.rows_l, List.getD_cons_zero, List.getD_cons_succ, List.cons_append, List.nil_append, List.append_nil, List.length_cons, List.length_nil], h3, by omega, by simp; omega, by simp⟩
  · rintro m l ρ2 ⟨ts, a_, k, rfl, hs, hk, hn, hf⟩ eρ
    simp only [List.cons_append, List.nil_append] at eρ
    subst eρ
    refine To.ite (fun cc => ?_) (fun cc => ?_) <;> simp only [X.den, X.dens, X.denss, D.int_i, D.boo_b, D.str_s, D.rows_l, List.getD_cons_zero, List.getD_cons_succ, List.cons_append, List.nil_append, List.append_nil, List.length_cons, List.length_nil, decide_eq_true_eq, decide_eq_false_iff_not, Bool.not_eq_true', Bool.not_eq_false', Bool.and_eq_true, Bool.and_eq_false_iff, Bool.true_eq_false, Bool.false_eq_true, Bool.not_true, Bool.not_false, eq_self] at cc
    · refine To.viaK (by (try simp (disch := omega) only [X.den, X.dens, X.denss, D.int_i, D.boo_b, D.str_s, D.rows_l, List.getD_cons_zero, List.getD_cons_succ, List.cons_append, List.nil_append, List.append_nil, List.length_cons, List.length_nil, decide_eq_true_eq, decide_eq_false_iff_not, Bool.not_eq_true', Bool.not_eq_false', Bool.and_eq_true, Bool.and_eq_false_iff, Bool.true_eq_false, Bool.false_eq_true, Bool.not_true, Bool.not_false, eq_self, D.len_l, wr64, not_true_eq_false, not_false_eq_true]); exact srcThr_to hs) ?_
      rintro _ ρ2 ⟨u1, u2, u3, u4, u5, u6, t4, rfl, th, _, _, _, h4⟩ eρ
      refine ⟨rfl, ?_⟩
      simp only [List.cons_append, List.nil_append] at eρ
      subst eρ
      refine To.need (by simp only [X.den, X.dens, X.denss, D.int_i, D.boo_b, D.str_s, D.rows_l, List.getD_cons_zero, List.getD_cons_succ, List.cons_append, List.nil_append, List.append_nil, List.length_cons, List.length_nil, decide_eq_true_eq, decide_eq_false_iff_not, Bool.not_eq_true', Bool.not_eq_false', Bool.and_eq_true, Bool.and_eq_false_iff, Bool.true_eq_false, Bool.false_eq_true, Bool.not_true, Bool.not_false, eq_self, D.len_l]; omega) ?_
      refine To.ret (.inl ⟨rfl, m - 1, by omega, ?_⟩)
      simp (disch := omega) only [X.den, X.dens, X.denss, D.int_i, D.boo_b, D.str_s, D.rows_l, List.getD_cons_zero, List.getD_cons_succ, List.cons_append, List.nil_append, List.append_nil, List.length_cons, List.length_nil, wr64]
      refine ⟨_, _, _, rfl, h4, by omega, by rw [List.length_append]; simp only [List.length_cons, List.length_nil]; omega, ?_⟩
      intro r hr
      rcases List.mem_append.1 hr with hr | hr
      · exact hf r hr
      · rw [List.mem_singleton] at hr
        exact ⟨_, _, _, _, _, _, hr, th⟩
    · exact To.ret (.inr ⟨rfl, ts, a_, by simp only [X.den, X.dens, X.denss, D.int_i, D.boo_b, D.str_s, D.rows_l, List.getD_cons_zero, List.getD_cons_succ, List.cons_append, List.nil_append, List.append_nil, List.length_cons, List.length_nil], hs, by omega, hf⟩)
  · rintro l ρ2 ⟨ts, a_, rfl, hs, hn, hf⟩ eρ
    simp only [List.cons_append, List.nil_append] at eρ
    subst eρ
    refine ⟨rfl, To.ret ?_⟩
    simp only [X.den, X.dens, X.denss, D.int_i, D.boo_b, D.str_s, D.rows_l, List.getD_cons_zero, List.getD_cons_succ, List.cons_append, List.nil_append, List.append_nil, List.length_cons, List.length_nil, ea, eb]
    exact ⟨_, _, _, _, rfl, by omega, by omega, hn, hf, hs⟩
theorem srcThs_to {rows ts : List (List D)} {at_ bow stern : Int} (h : SrcOk rows at_) (n1 : ts.length ≤ 8) :
    ∃ l, srcThs_T.run srcM12 20 [.l rows, .i at_, .i bow, .i stern, .l ts] = some l ∧ ∃ fs at', l = [.l fs, .l rows, .i at'] ∧ fs.length = ts.length ∧ (∀ r ∈ fs, TsRow r) ∧ SrcOk rows at' := by
  refine run_to ?_
  unfold srcThs_T
  refine To.loopK (fun m l => ∃ fs at_ k, l = [.l fs, .l rows, .i at_, .i k] ∧ SrcOk rows at_ ∧ k = fs.length ∧ k + m = ts.length ∧ ∀ r ∈ fs, TsRow r) (fun l => ∃ fs at_, l = [.l fs, .l rows, .i at_] ∧ SrcOk rows at_ ∧ fs.length = ts.length ∧ ∀ r ∈ fs, TsRow r) ts.length (by omega) ?_ ?_ ?_
  · exact ⟨[], at_, 0, by simp only [X.den, X.dens, X.denss, D.int_i, D.boo_b, D.str_s, D.rows_l, List.getD_cons_zero, List.getD_cons_succ, List.cons_append, List.nil_append, List.append_nil, List.length_cons, List.length_nil], h, by simp, by simp, by simp⟩
  · rintro m l ρ2 ⟨fs, a_, k, rfl, hs, hk, hn, hf⟩ eρ
    simp only [List.cons_append, List.nil_append] at eρ
    subst eρ
    refine To.ite (fun cc => ?_) (fun cc => ?_) <;> simp only [X.den, X.dens, X.denss, D.int_i, D.boo_b, D.str_s, D.rows_l, List.getD_cons_zero, List.getD_cons_succ, List.cons_append, List.nil_append, List.append_nil, List.length_cons, List.length_nil, decide_eq_true_eq, decide_eq_false_iff_not, Bool.not_eq_true', Bool.not_eq_false', Bool.and_eq_true, Bool.and_eq_false_iff, Bool.true_eq_false, Bool.false_eq_true, Bool.not_true, Bool.not_false, eq_self, D.len_l] at cc
    · refine To.viaK (by (try simp (disch := omega) only [X.den, X.dens, X.denss, D.int_i, D.boo_b, D.str_s, D.rows_l, List.getD_cons_zero, List.getD_cons_succ, List.cons_append, List.nil_append, List.append_nil, List.length_cons, List.length_nil, decide_eq_true_eq, decide_eq_false_iff_not, Bool.not_eq_true', Bool.not_eq_false', Bool.and_eq_true, Bool.and_eq_false_iff, Bool.true_eq_false, Bool.false_eq_true, Bool.not_true, Bool.not_false, eq_self, D.len_l, wr64, not_true_eq_false, not_false_eq_true]); exact srcN_to hs (by omega) (by omega)) ?_
      rintro _ ρ2 ⟨x, t1, rfl, p1, q1, h1⟩ eρ
      refine ⟨rfl, ?_⟩
      simp only [List.cons_append, List.nil_append] at eρ
      subst eρ
      refine To.viaK (by (try simp (disch := omega) only [X.den, X.dens, X.denss, D.int_i, D.boo_b, D.str_s, D.rows_l, List.getD_cons_zero, List.getD_cons_succ, List.cons_append, List.nil_append, List.append_nil, List.length_cons, List.length_nil, decide_eq_true_eq, decide_eq_false_iff_not, Bool.not_eq_true', Bool.not_eq_false', Bool.and_eq_true, Bool.and_eq_false_iff, Bool.true_eq_false, Bool.false_eq_true, Bool.not_true, Bool.not_false, eq_self, D.len_l, wr64, not_true_eq_false, not_false_eq_true]); exact srcN_to h1 (by omega) (by omega)) ?_
      rintro _ ρ2 ⟨y, t2, rfl, p2, q2, h2⟩ eρ
      refine ⟨rfl, ?_⟩
      simp only [List.cons_append, List.nil_append] at eρ
      subst eρ
      refine To.need (by simp only [X.den, X.dens, X.denss, D.int_i, D.boo_b, D.str_s, D.rows_l, List.getD_cons_zero, List.getD_cons_succ, List.cons_append, List.nil_append, List.append_nil, List.length_cons, List.length_nil, decide_eq_true_eq, decide_eq_false_iff_not, Bool.not_eq_true', Bool.not_eq_false', Bool.and_eq_true, Bool.and_eq_false_iff, Bool.true_eq_false, Bool.false_eq_true, Bool.not_true, Bool.not_false, eq_self, D.len_l]; omega) ?_
      refine To.ret (.inl ⟨rfl, m - 1, by omega, ?_⟩)
      simp (disch := omega) only [X.den, X.dens, X.denss, D.int_i, D.boo_b, D.str_s, D.rows_l, List.getD_cons_zero, List.getD_cons_succ, List.cons_append, List.nil_append, List.append_nil, List.length_cons, List.length_nil, wr64]
      refine ⟨_, _, _, rfl, h2, by rw [List.length_append]; simp only [List.length_cons, List.length_nil]; omega, by omega, ?_⟩
      intro r hr
      rcases List.mem_append.1 hr with hr | hr
      · exact hf r hr
      · rw [List.mem_singleton] at hr
        exact ⟨_, _, hr, by omega, by omega, by omega⟩
    · exact To.ret (.inr ⟨rfl, fs, a_, by simp only [X.den, X.dens, X.denss, D.int_i, D.boo_b, D.str_s, D.rows_l, List.getD_cons_zero, List.getD_cons_succ, List.cons_append, List.nil_append, List.append_nil, List.length_cons, List.length_nil], hs, by omega, hf⟩)
  · rintro l ρ2 ⟨fs, a_, rfl, hs, hn, hf⟩ eρ
    simp only [List.cons_append, List.nil_append] at eρ
    subst eρ
    refine ⟨rfl, To.ret ?_⟩
    simp only [X.den, X.dens, X.denss, D.int_i, D.boo_b, D.str_s, D.rows_l, List.getD_cons_zero, List.getD_cons_succ, List.cons_append, List.nil_append, List.append_nil, List.length_cons, List.length_nil]
    exact ⟨_, _, rfl, hn, hf, hs⟩
theorem tCheck_to {bow stern : Int} {ts : List (List D)} (b : 0 ≤ bow ∧ bow ≤ 60) (s : 1 ≤ stern ∧ stern ≤ 40) (ht : ∀ r ∈ ts, ThRow r) (hn : ts.length ≤ 8) : ∃ l, tCheck_T.run pwM 20 [.i bow, .i stern, .l ts] = some l ∧ l = [.i 0] := by
  refine run_to ?_
  unfold tCheck_T
  (repeat' (first
      | (refine To.subK (fun K hK => ?_))
      | (refine To.need (by simp (disch := omega) only [X.den, X.dens, X.denss, D.int_i, D.boo_b, D.str_s, D.rows_l, List.getD_cons_zero, List.getD_cons_succ, List.cons_append, List.nil_append, List.append_nil, List.length_cons, List.length_nil, decide_eq_true_eq, decide_eq_false_iff_not, Bool.not_eq_true', Bool.not_eq_false', Bool.and_eq_true, Bool.and_eq_false_iff, Bool.true_eq_false, Bool.false_eq_true, Bool.not_true, Bool.not_false, eq_self, D.len_l, wr64, not_true_eq_false, not_false_eq_true] <;> omega) ?_)
      | (refine To.ite (fun c => ?_) (fun c => ?_) <;> ((try simp (disch := omega) only [X.den, X.dens, X.denss, D.int_i, D.boo_b, D.str_s, D.rows_l, List.getD_cons_zero, List.getD_cons_succ, List.cons_append, List.nil_append, List.append_nil, List.length_cons, List.length_nil, decide_eq_true_eq, decide_eq_false_iff_not, Bool.not_eq_true', Bool.not_eq_false', Bool.and_eq_true, Bool.and_eq_false_iff, Bool.true_eq_false, Bool.false_eq_true, Bool.not_true, Bool.not_false, eq_self, D.len_l, wr64, not_true_eq_false, not_false_eq_true] at c) <;> (try (exfalso; omega))))
      
      | (refine To.ret ⟨rfl, ?_⟩; (try simp (disch := omega) only [X.den, X.dens, X.denss, D.int_i, D.boo_b, D.str_s, D.rows_l, List.getD_cons_zero, List.getD_cons_succ, List.cons_append, List.nil_append, List.append_nil, List.length_cons, List.length_nil, decide_eq_true_eq, decide_eq_false_iff_not, Bool.not_eq_true', Bool.not_eq_false', Bool.and_eq_true, Bool.and_eq_false_iff, Bool.true_eq_false, Bool.false_eq_true, Bool.not_true, Bool.not_false, eq_self, D.len_l, wr64, not_true_eq_false, not_false_eq_true]); refine hK _ _ (by simp only [List.cons_append, List.nil_append]; first | done | rfl) ?_; clear hK; clear K)))
  all_goals
    refine To.loopK (fun m l => ∃ i : Nat, l = [.i i] ∧ i + m = ts.length) (fun l => l = [.i 1, .i 0, .i 0, .i 0, .i 0, .i 0, .i 0]) ts.length (by omega) ?_ ?_ ?_
    · exact ⟨0, by simp only [X.den, X.dens, X.denss, D.int_i, D.boo_b, D.str_s, D.rows_l, List.getD_cons_zero, List.getD_cons_succ, List.cons_append, List.nil_append, List.append_nil, List.length_cons, List.length_nil]; rfl, by omega⟩
    · rintro m l ρ2 ⟨i, rfl, i1⟩ eρ
      simp only [List.cons_append, List.nil_append] at eρ
      subst eρ
      refine To.ite (fun c => ?_) (fun c => ?_) <;> simp only [X.den, X.dens, X.denss, D.int_i, D.boo_b, D.str_s, D.rows_l, List.getD_cons_zero, List.getD_cons_succ, List.cons_append, List.nil_append, List.append_nil, List.length_cons, List.length_nil, decide_eq_true_eq, decide_eq_false_iff_not, Bool.not_eq_true', Bool.not_eq_false', Bool.and_eq_true, Bool.and_eq_false_iff, Bool.true_eq_false, Bool.false_eq_true, Bool.not_true, Bool.not_false, eq_self, D.len_l] at c
      · refine To.need (by simp only [X.den, X.dens, X.denss, D.int_i, D.boo_b, D.str_s, D.rows_l, List.getD_cons_zero, List.getD_cons_succ, List.cons_append, List.nil_append, List.append_nil, List.length_cons, List.length_nil, decide_eq_true_eq, decide_eq_false_iff_not, Bool.not_eq_true', Bool.not_eq_false', Bool.and_eq_true, Bool.and_eq_false_iff, Bool.true_eq_false, Bool.false_eq_true, Bool.not_true, Bool.not_false, eq_self, D.len_l]; omega) ?_
        obtain ⟨k, st, mx, rt, co, arcs, c0, c1, c2, c3, c4, c5, th⟩ := th_cell ht (show i < ts.length by omega)
        refine To.viaK (by (try simp (disch := omega) only [X.den, X.dens, X.denss, D.int_i, D.boo_b, D.str_s, D.rows_l, List.getD_cons_zero, List.getD_cons_succ, List.cons_append, List.nil_append, List.append_nil, List.length_cons, List.length_nil, decide_eq_true_eq, decide_eq_false_iff_not, Bool.not_eq_true', Bool.not_eq_false', Bool.and_eq_true, Bool.and_eq_false_iff, Bool.true_eq_false, Bool.false_eq_true, Bool.not_true, Bool.not_false, eq_self, D.len_l, wr64, not_true_eq_false, not_false_eq_true, c0, c1, c2, c3, c4, c5]); exact valid_to th) ?_
        rintro _ ρ2 rfl eρ
        refine ⟨rfl, ?_⟩
        simp only [List.cons_append, List.nil_append] at eρ
        subst eρ
        refine To.yes rfl (To.ret (.inl ⟨rfl, m - 1, by omega, i + 1, ?_, by omega⟩))
        simp (disch := omega) only [X.den, X.dens, X.denss, D.int_i, D.boo_b, D.str_s, D.rows_l, List.getD_cons_zero, List.getD_cons_succ, List.cons_append, List.nil_append, List.append_nil, List.length_cons, List.length_nil, wr64]
        rfl
      · exact To.ret (.inr ⟨rfl, by simp only [X.den, X.dens, X.denss, D.int_i, D.boo_b, D.str_s, D.rows_l, List.getD_cons_zero, List.getD_cons_succ, List.cons_append, List.nil_append, List.append_nil, List.length_cons, List.length_nil]⟩)
    · rintro l ρ2 rfl eρ
      simp only [List.cons_append, List.nil_append] at eρ
      subst eρ
      exact ⟨rfl, To.no rfl (To.ret (by simp only [X.den, X.dens, X.denss, D.int_i, D.boo_b, D.str_s, D.rows_l, List.getD_cons_zero, List.getD_cons_succ, List.cons_append, List.nil_append, List.append_nil, List.length_cons, List.length_nil]))⟩
theorem tTotal_to {bow stern : Int} {ts fs : List (List D)} (b : 0 ≤ bow ∧ bow ≤ 60) (s : 1 ≤ stern ∧ stern ≤ 40) (ht : ∀ r ∈ ts, ThRow r) (hn : ts.length ≤ 8) (hf : ∀ r ∈ fs, TsRow r) (hl : fs.length = ts.length) :
    ∃ l, tTotal_T.run ttM 20 [.i bow, .i stern, .l ts, .l fs] = some l ∧ l = [.i (sx fs fs.length), .i (sb ts fs fs.length), .i (ss ts fs fs.length), .i 0] := by
  refine run_to ?_
  unfold tTotal_T
  refine To.viaK (by (try simp (disch := omega) only [X.den, X.dens, X.denss, D.int_i, D.boo_b, D.str_s, D.rows_l, List.getD_cons_zero, List.getD_cons_succ, List.cons_append, List.nil_append, List.append_nil, List.length_cons, List.length_nil, decide_eq_true_eq, decide_eq_false_iff_not, Bool.not_eq_true', Bool.not_eq_false', Bool.and_eq_true, Bool.and_eq_false_iff, Bool.true_eq_false, Bool.false_eq_true, Bool.not_true, Bool.not_false, eq_self, D.len_l, wr64, not_true_eq_false, not_false_eq_true]); exact tCheck_to b s ht hn) ?_
  rintro _ ρ2 rfl eρ
  refine ⟨rfl, ?_⟩
  simp only [List.cons_append, List.nil_append] at eρ
  subst eρ
  refine To.yes rfl (To.yes (by simp only [X.den, X.dens, X.denss, D.int_i, D.boo_b, D.str_s, D.rows_l, List.getD_cons_zero, List.getD_cons_succ, List.cons_append, List.nil_append, List.append_nil, List.length_cons, List.length_nil, decide_eq_true_eq, decide_eq_false_iff_not, Bool.not_eq_true', Bool.not_eq_false', Bool.and_eq_true, Bool.and_eq_false_iff, Bool.true_eq_false, Bool.false_eq_true, Bool.not_true, Bool.not_false, eq_self, D.len_l]; omega) ?_)
  refine To.loopK (fun m l => ∃ i : Nat, l = [.i (sx fs i), .i (sb ts fs i), .i (ss ts fs i), .i i] ∧ i + m = fs.length) (fun l => ∃ z1 z2 z3 z4, l = [.i 1, .i (sx fs fs.length), .i (sb ts fs fs.length), .i (ss ts fs fs.length), z1, z2, z3, z4]) fs.length (by omega) ?_ ?_ ?_
  · exact ⟨0, by simp only [X.den, X.dens, X.denss, D.int_i, D.boo_b, D.str_s, D.rows_l, List.getD_cons_zero, List.getD_cons_succ, List.cons_append, List.nil_append, List.append_nil, List.length_cons, List.length_nil, sx, sb, ss]; rfl, by omega⟩
  · rintro m l ρ2 ⟨i, rfl, i1⟩ eρ
    simp only [List.cons_append, List.nil_append] at eρ
    subst eρ
    obtain ⟨r1, r2, r3⟩ := sums_rng (ts := ts) hf i (by omega)
    refine To.ite (fun c => ?_) (fun c => ?_) <;> simp only [X.den, X.dens, X.denss, D.int_i, D.boo_b, D.str_s, D.rows_l, List.getD_cons_zero, List.getD_cons_succ, List.cons_append, List.nil_append, List.append_nil, List.length_cons, List.length_nil, decide_eq_true_eq, decide_eq_false_iff_not, Bool.not_eq_true', Bool.not_eq_false', Bool.and_eq_true, Bool.and_eq_false_iff, Bool.true_eq_false, Bool.false_eq_true, Bool.not_true, Bool.not_false, eq_self, D.len_l] at c
    · obtain ⟨k, st, mx, rt, co, arcs, c0, c1, c2, c3, c4, c5, th⟩ := th_cell ht (show i < ts.length by omega)
      obtain ⟨x, y, d0, d1, hx, hy⟩ := ts_cell hf (show i < fs.length by omega)
      refine To.subK (fun K hK => ?_)
      refine To.need (by simp only [X.den, X.dens, X.denss, D.int_i, D.boo_b, D.str_s, D.rows_l, List.getD_cons_zero, List.getD_cons_succ, List.cons_append, List.nil_append, List.append_nil, List.length_cons, List.length_nil, decide_eq_true_eq, decide_eq_false_iff_not, Bool.not_eq_true', Bool.not_eq_false', Bool.and_eq_true, Bool.and_eq_false_iff, Bool.true_eq_false, Bool.false_eq_true, Bool.not_true, Bool.not_false, eq_self, D.len_l]; omega) ?_
      refine To.joinK (fun l => l = [.b true]) (To.no (by simp only [X.den, X.dens, X.denss, D.int_i, D.boo_b, D.str_s, D.rows_l, List.getD_cons_zero, List.getD_cons_succ, List.cons_append, List.nil_append, List.append_nil, List.length_cons, List.length_nil, decide_eq_true_eq, decide_eq_false_iff_not, Bool.not_eq_true', Bool.not_eq_false', Bool.and_eq_true, Bool.and_eq_false_iff, Bool.true_eq_false, Bool.false_eq_true, Bool.not_true, Bool.not_false, eq_self, d0, d1]; omega) (To.ret ⟨rfl, by simp only [X.den, X.dens, X.denss, D.int_i, D.boo_b, D.str_s, D.rows_l, List.getD_cons_zero, List.getD_cons_succ, List.cons_append, List.nil_append, List.append_nil, List.length_cons, List.length_nil, d0, d1]; rw [decide_eq_false (by omega)]; rfl⟩)) ?_
      rintro l ρ2 rfl eρ
      simp only [List.cons_append, List.nil_append] at eρ
      subst eρ
      refine To.yes rfl (To.need (by simp only [X.den, X.dens, X.denss, D.int_i, D.boo_b, D.str_s, D.rows_l, List.getD_cons_zero, List.getD_cons_succ, List.cons_append, List.nil_append, List.append_nil, List.length_cons, List.length_nil, decide_eq_true_eq, decide_eq_false_iff_not, Bool.not_eq_true', Bool.not_eq_false', Bool.and_eq_true, Bool.and_eq_false_iff, Bool.true_eq_false, Bool.false_eq_true, Bool.not_true, Bool.not_false, eq_self, D.len_l]; omega) ?_)
      refine To.ite (fun c2 => ?_) (fun c2 => ?_) <;> simp only [X.den, X.dens, X.denss, D.int_i, D.boo_b, D.str_s, D.rows_l, List.getD_cons_zero, List.getD_cons_succ, List.cons_append, List.nil_append, List.append_nil, List.length_cons, List.length_nil, decide_eq_true_eq, decide_eq_false_iff_not, Bool.not_eq_true', Bool.not_eq_false', Bool.and_eq_true, Bool.and_eq_false_iff, Bool.true_eq_false, Bool.false_eq_true, Bool.not_true, Bool.not_false, eq_self, c1] at c2
      · refine To.ret ⟨rfl, ?_⟩
        simp (disch := omega) only [X.den, X.dens, X.denss, D.int_i, D.boo_b, D.str_s, D.rows_l, List.getD_cons_zero, List.getD_cons_succ, List.cons_append, List.nil_append, List.append_nil, List.length_cons, List.length_nil, wr64, d1]
        refine hK _ _ (by simp only [List.cons_append, List.nil_append]; first | done | rfl) ?_
        refine To.yes rfl (To.ret (.inl ⟨rfl, m - 1, by omega, i + 1, ?_, by omega⟩))
        simp (disch := omega) only [X.den, X.dens, X.denss, D.int_i, D.boo_b, D.str_s, D.rows_l, List.getD_cons_zero, List.getD_cons_succ, List.cons_append, List.nil_append, List.append_nil, List.length_cons, List.length_nil, wr64, d0, d1, sx, sb, ss, c1, if_pos c2, Int.add_zero]
        rfl
      · refine To.ret ⟨rfl, ?_⟩
        simp (disch := omega) only [X.den, X.dens, X.denss, D.int_i, D.boo_b, D.str_s, D.rows_l, List.getD_cons_zero, List.getD_cons_succ, List.cons_append, List.nil_append, List.append_nil, List.length_cons, List.length_nil, wr64, d1]
        refine hK _ _ (by simp only [List.cons_append, List.nil_append]; first | done | rfl) ?_
        refine To.yes rfl (To.ret (.inl ⟨rfl, m - 1, by omega, i + 1, ?_, by omega⟩))
        simp (disch := omega) only [X.den, X.dens, X.denss, D.int_i, D.boo_b, D.str_s, D.rows_l, List.getD_cons_zero, List.getD_cons_succ, List.cons_append, List.nil_append, List.append_nil, List.length_cons, List.length_nil, wr64, d0, d1, sx, sb, ss, c1, if_neg c2, Int.add_zero]
        rfl
    · obtain rfl : i = fs.length := by omega
      refine To.ret (.inr ⟨rfl, .i 0, .i 0, .i 0, .i 0, ?_⟩)
      simp only [X.den, X.dens, X.denss, D.int_i, D.boo_b, D.str_s, D.rows_l, List.getD_cons_zero, List.getD_cons_succ, List.cons_append, List.nil_append, List.append_nil, List.length_cons, List.length_nil]
  · rintro l ρ2 ⟨z1, z2, z3, z4, rfl⟩ eρ
    simp only [List.cons_append, List.nil_append] at eρ
    subst eρ
    exact ⟨rfl, To.no rfl (To.ret (by simp only [X.den, X.dens, X.denss, D.int_i, D.boo_b, D.str_s, D.rows_l, List.getD_cons_zero, List.getD_cons_succ, List.cons_append, List.nil_append, List.append_nil, List.length_cons, List.length_nil]))⟩
theorem tMoment_to {bow stern : Int} {ts fs : List (List D)} (b : 0 ≤ bow ∧ bow ≤ 60) (s : 1 ≤ stern ∧ stern ≤ 40) (ht : ∀ r ∈ ts, ThRow r) (hn : ts.length ≤ 8) (hf : ∀ r ∈ fs, TsRow r) (hl : fs.length = ts.length) :
    ∃ l, tMoment_T.run tmoM 0 [.i bow, .i stern, .l ts, .l fs] = some l ∧ l = [.i (sx fs fs.length), .i (sb ts fs fs.length + ss ts fs fs.length), .i (sb ts fs fs.length * bow - ss ts fs fs.length * stern), .i 0] := by
  obtain ⟨r1, r2, r3⟩ := sums_rng (ts := ts) hf fs.length (Nat.le_refl _)
  have q1 := prod_rng (b := sb ts fs fs.length) (B := 160) b.1 b.2 (by omega) (by omega) (by decide)
  have q2 := prod_rng (b := ss ts fs fs.length) (B := 160) (show 0 ≤ stern by omega) s.2 (by omega) (by omega) (by decide)
  rw [Int.mul_comm bow] at q1; rw [Int.mul_comm stern] at q2
  refine run_to ?_
  unfold tMoment_T
  refine To.viaK (by (try simp (disch := omega) only [X.den, X.dens, X.denss, D.int_i, D.boo_b, D.str_s, D.rows_l, List.getD_cons_zero, List.getD_cons_succ, List.cons_append, List.nil_append, List.append_nil, List.length_cons, List.length_nil, decide_eq_true_eq, decide_eq_false_iff_not, Bool.not_eq_true', Bool.not_eq_false', Bool.and_eq_true, Bool.and_eq_false_iff, Bool.true_eq_false, Bool.false_eq_true, Bool.not_true, Bool.not_false, eq_self, D.len_l, wr64, not_true_eq_false, not_false_eq_true]); exact tTotal_to b s ht hn hf hl) ?_
  rintro _ ρ2 rfl eρ
  refine ⟨rfl, ?_⟩
  simp only [List.cons_append, List.nil_append] at eρ
  subst eρ
  refine To.ret ?_
  simp (disch := omega) only [X.den, X.dens, X.denss, D.int_i, D.boo_b, D.str_s, D.rows_l, List.getD_cons_zero, List.getD_cons_succ, List.cons_append, List.nil_append, List.append_nil, List.length_cons, List.length_nil, wr64]
end Go.Proofs.Ytladhlgibapohaa
