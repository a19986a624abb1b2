/- Shares: the source, lists of numbers that are compared, the examples. -/
import Derived.Test.YtlhnhidoljfnnaaShrC
set_option linter.unusedVariables false
set_option linter.unusedSimpArgs false
namespace Go.Proofs.Ytlhnhidoljfnnaa
open Go.RowKit Fx Sh
/-- a row of the source -/
def ShRow (r : List D) : Prop := ∃ a b c : Int, r = [.i a, .i b, .i c] ∧ (-9 ≤ a ∧ a ≤ 5) ∧ (a ≤ b ∧ b ≤ a + 11) ∧ (1 ≤ c ∧ c ≤ 100)
theorem at_mem {fs : List (List D)} {k : Int} (h0 : 0 ≤ k) (h1 : k < fs.length) : fs.getD k.toNat [] ∈ fs := by
  rw [List.getD_eq_getElem?_getD, List.getElem?_eq_getElem (by omega), Option.getD_some]
  exact List.getElem_mem _
theorem shRow_ok {l : List (List D)} (h : ∀ r ∈ l, ShRow r) {i : Int} (i0 : 0 ≤ i) (i1 : i < l.length) : okS l i ∧ -9 ≤ ce l 0 i ∧ ce l 1 i ≤ 16 := by
  obtain ⟨a, b, c, e, ha, hb, hc⟩ := h _ (at_mem i0 i1)
  have e0 : ce l 0 i = a := by simp only [ce, cell_of, e]; rfl
  have e1 : ce l 1 i = b := by simp only [ce, cell_of, e]; rfl
  have e2 : ce l 2 i = c := by simp only [ce, cell_of, e]; rfl
  simp only [okS, e0, e1, e2]
  omega
theorem shRow_vd {l : List (List D)} (h : ∀ r ∈ l, ShRow r) (hl : l.length ≤ 8) : vd l = 0 := vd_of hl fun i a b => (shRow_ok h a b).1
def srcLM : Models := Models.on srcN_K.f (srcN_T.run noM 0) noM
theorem cost_pick {r : Int} (h0 : 0 ≤ r) (h1 : r < 6) : ∃ z : Int, (D.l [[.i 1], [.i 1], [.i 2], [.i 3], [.i 7], [.i 100]]).cell r 0 = .i z ∧ 1 ≤ z ∧ z ≤ 100 := by
  obtain ⟨a, ha, ea⟩ := pick_cell (zs := [1, 1, 2, 3, 7, 100]) h0 h1
  refine ⟨a, ea, ?_⟩
  simp only [List.mem_cons, List.not_mem_nil, or_false] at ha
  omega
theorem srcShares_to {rows : List (List D)} {at_ n : Int} (h : SrcOk rows at_) (n0 : 0 ≤ n) (n1 : n ≤ 20) :
    ∃ o, srcShares_T.run srcLM 30 [.l rows, .i at_, .i n] = some o ∧ ∃ l at', o = [.l l, .l rows, .i at'] ∧ (l.length : Int) ≤ n ∧ (∀ r ∈ l, ShRow r) ∧ SrcOk rows at' := by
  refine run_to ?_
  unfold srcShares_T
  refine To.viaK (by (try simp (disch := omega) only [X.den, X.dens, X.denss, D.int_i, D.boo_b, D.str_s, D.rows_l, List.getD_cons_zero, List.getD_cons_succ, List.cons_append, List.nil_append, List.append_nil, List.length_cons, List.length_nil, decide_eq_true_eq, decide_eq_false_iff_not, Bool.not_eq_true', Bool.not_eq_false', Bool.and_eq_true, Bool.and_eq_false_iff, Bool.true_eq_false, Bool.false_eq_true, Bool.not_true, Bool.not_false, eq_self, D.len_l, wr64, not_true_eq_false, not_false_eq_true]); exact srcN_to h (by omega) (by omega)) ?_
  rintro _ ρ2 ⟨r, t1, rfl, p, q, h1⟩ eρ
  refine ⟨rfl, ?_⟩
  simp only [List.cons_append, List.nil_append] at eρ
  subst eρ
  refine To.loopK (fun m o => ∃ l at_ k, o = [.l l, .l rows, .i at_, .i k] ∧ SrcOk rows at_ ∧ k = m ∧ k + l.length ≤ n ∧ ∀ r ∈ l, ShRow r) (fun o => ∃ l at_, o = [.l l, .l rows, .i at_] ∧ SrcOk rows at_ ∧ (l.length : Int) ≤ n ∧ ∀ r ∈ l, ShRow r) r.toNat (by omega) ?_ ?_ ?_
  · exact ⟨[], t1, r, by simp only [X.den, X.dens, X.denss, D.int_i, D.boo_b, D.str_s, D.rows_l, List.getD_cons_zero, List.getD_cons_succ, List.cons_append, List.nil_append, List.append_nil, List.length_cons, List.length_nil, X.denss], h1, by omega, by simp; omega, by simp⟩
  · rintro m o ρ2 ⟨l, a, k, rfl, hs, hk, hn, hf⟩ eρ
    simp only [List.cons_append, List.nil_append] at eρ
    subst eρ
    refine To.ite (fun c => ?_) (fun c => ?_) <;> simp only [X.den, X.dens, X.denss, D.int_i, D.boo_b, D.str_s, D.rows_l, List.getD_cons_zero, List.getD_cons_succ, List.cons_append, List.nil_append, List.append_nil, List.length_cons, List.length_nil, decide_eq_true_eq, decide_eq_false_iff_not, Bool.not_eq_true', Bool.not_eq_false', Bool.and_eq_true, Bool.and_eq_false_iff, Bool.true_eq_false, Bool.false_eq_true, Bool.not_true, Bool.not_false, eq_self] at c
    · refine To.viaK (by (try simp (disch := omega) only [X.den, X.dens, X.denss, D.int_i, D.boo_b, D.str_s, D.rows_l, List.getD_cons_zero, List.getD_cons_succ, List.cons_append, List.nil_append, List.append_nil, List.length_cons, List.length_nil, decide_eq_true_eq, decide_eq_false_iff_not, Bool.not_eq_true', Bool.not_eq_false', Bool.and_eq_true, Bool.and_eq_false_iff, Bool.true_eq_false, Bool.false_eq_true, Bool.not_true, Bool.not_false, eq_self, D.len_l, wr64, not_true_eq_false, not_false_eq_true]); exact srcN_to hs (by omega) (by omega)) ?_
      rintro _ ρ2 ⟨r1, t1, rfl, p1, q1, h1⟩ eρ
      refine ⟨rfl, ?_⟩
      simp only [List.cons_append, List.nil_append] at eρ
      subst eρ
      refine To.viaK (by (try simp (disch := omega) only [X.den, X.dens, X.denss, D.int_i, D.boo_b, D.str_s, D.rows_l, List.getD_cons_zero, List.getD_cons_succ, List.cons_append, List.nil_append, List.append_nil, List.length_cons, List.length_nil, decide_eq_true_eq, decide_eq_false_iff_not, Bool.not_eq_true', Bool.not_eq_false', Bool.and_eq_true, Bool.and_eq_false_iff, Bool.true_eq_false, Bool.false_eq_true, Bool.not_true, Bool.not_false, eq_self, D.len_l, wr64, not_true_eq_false, not_false_eq_true]); exact srcN_to h1 (by omega) (by omega)) ?_
      rintro _ ρ2 ⟨r2, t2, rfl, p2, q2, h2⟩ eρ
      refine ⟨rfl, ?_⟩
      simp only [List.cons_append, List.nil_append] at eρ
      subst eρ
      refine To.viaK (by (try simp (disch := omega) only [X.den, X.dens, X.denss, D.int_i, D.boo_b, D.str_s, D.rows_l, List.getD_cons_zero, List.getD_cons_succ, List.cons_append, List.nil_append, List.append_nil, List.length_cons, List.length_nil, decide_eq_true_eq, decide_eq_false_iff_not, Bool.not_eq_true', Bool.not_eq_false', Bool.and_eq_true, Bool.and_eq_false_iff, Bool.true_eq_false, Bool.false_eq_true, Bool.not_true, Bool.not_false, eq_self, D.len_l, wr64, not_true_eq_false, not_false_eq_true]); exact srcN_to h2 (by omega) (by omega)) ?_
      rintro _ ρ2 ⟨r3, t3, rfl, p3, q3, h3⟩ eρ
      refine ⟨rfl, ?_⟩
      simp only [List.cons_append, List.nil_append] at eρ
      subst eρ
      refine To.need (by simp only [X.den, X.dens, X.denss, D.int_i, D.boo_b, D.str_s, D.rows_l, List.getD_cons_zero, List.getD_cons_succ, List.cons_append, List.nil_append, List.append_nil, List.length_cons, List.length_nil, decide_eq_true_eq, decide_eq_false_iff_not, Bool.not_eq_true', Bool.not_eq_false', Bool.and_eq_true, Bool.and_eq_false_iff, Bool.true_eq_false, Bool.false_eq_true, Bool.not_true, Bool.not_false, eq_self]; omega) ?_
      refine To.need (by simp only [X.den, X.dens, X.denss, D.int_i, D.boo_b, D.str_s, D.rows_l, List.getD_cons_zero, List.getD_cons_succ, List.cons_append, List.nil_append, List.append_nil, List.length_cons, List.length_nil, decide_eq_true_eq, decide_eq_false_iff_not, Bool.not_eq_true', Bool.not_eq_false', Bool.and_eq_true, Bool.and_eq_false_iff, Bool.true_eq_false, Bool.false_eq_true, Bool.not_true, Bool.not_false, eq_self, D.len_l]; omega) ?_
      obtain ⟨z, ez, z0, z1⟩ := cost_pick p3 q3
      refine To.ret (.inl ⟨rfl, m - 1, by omega, ?_⟩)
      simp (disch := omega) only [X.den, X.dens, X.denss, D.int_i, D.boo_b, D.str_s, D.rows_l, List.getD_cons_zero, List.getD_cons_succ, List.cons_append, List.nil_append, List.append_nil, List.length_cons, List.length_nil, X.denss, wr64, ez]
      refine ⟨_, _, _, rfl, h3, by omega, by rw [List.length_append]; simp only [List.length_cons, List.length_nil]; omega, ?_⟩
      intro r hr
      rcases List.mem_append.1 hr with hr | hr
      · exact hf r hr
      · rw [List.mem_singleton] at hr
        exact ⟨_, _, _, hr, by omega, by omega, by omega⟩
    · exact To.ret (.inr ⟨rfl, l, a, by simp only [X.den, X.dens, X.denss, D.int_i, D.boo_b, D.str_s, D.rows_l, List.getD_cons_zero, List.getD_cons_succ, List.cons_append, List.nil_append, List.append_nil, List.length_cons, List.length_nil], hs, by omega, hf⟩)
  · rintro o ρ2 ⟨l, a, rfl, hs, hn, hf⟩ eρ
    simp only [List.cons_append, List.nil_append] at eρ
    subst eρ
    refine ⟨rfl, To.ret ?_⟩
    simp only [X.den, X.dens, X.denss, D.int_i, D.boo_b, D.str_s, D.rows_l, List.getD_cons_zero, List.getD_cons_succ, List.cons_append, List.nil_append, List.append_nil, List.length_cons, List.length_nil]
    exact ⟨_, _, rfl, hn, hf, hs⟩
theorem srcShares_ok : ConOk Try.prog srcShares_K (srcShares_T.run srcLM 30) := con_run follows (one_con (srcN_ok.to _) no_cons) srcShares_t rfl 30
/-- the same numbers -/
def SameN (x y : List (List D)) : Prop := x.length = y.length ∧ ∀ i : Int, 0 ≤ i → i < x.length → ce x 0 i = ce y 0 i
open Classical in
noncomputable def sameN (x y : List (List D)) : Bool := decide (SameN x y)
theorem sameN_true {x y} : sameN x y = true ↔ SameN x y := by simp only [sameN, decide_eq_true_eq]
theorem ints_gen {x y : List (List D)} (hx : x.length ≤ 20) : ∃ o, rInts_T.run noM 30 [.l x, .l y] = some o ∧ o = [.b (sameN x y)] := by
  refine run_to ?_
  unfold rInts_T
  refine To.ite (fun c => ?_) (fun c => ?_) <;> simp only [X.den, X.dens, X.denss, D.int_i, D.boo_b, D.str_s, D.rows_l, List.getD_cons_zero, List.getD_cons_succ, List.cons_append, List.nil_append, List.append_nil, List.length_cons, List.length_nil, decide_eq_true_eq, decide_eq_false_iff_not, Bool.not_eq_true', Bool.not_eq_false', Bool.and_eq_true, Bool.and_eq_false_iff, Bool.true_eq_false, Bool.false_eq_true, Bool.not_true, Bool.not_false, eq_self, D.len_l] at c
  · refine To.loopK (fun m o => ∃ i, o = [.i i] ∧ 0 ≤ i ∧ i + m = x.length ∧ ∀ j : Int, 0 ≤ j → j < i → ce x 0 j = ce y 0 j) (fun o => (o = [.i 0] ∧ sameN x y = false) ∨ (o = [.i 1] ∧ sameN x y = true)) x.length (by omega) ?_ ?_ ?_
    · exact ⟨0, by simp only [X.den, X.dens, X.denss, D.int_i, D.boo_b, D.str_s, D.rows_l, List.getD_cons_zero, List.getD_cons_succ, List.cons_append, List.nil_append, List.append_nil, List.length_cons, List.length_nil], by omega, by omega, by intro j; omega⟩
    · rintro m o ρ2 ⟨i, rfl, i0, i1, hj⟩ eρ
      simp only [List.cons_append, List.nil_append] at eρ
      subst eρ
      refine To.ite (fun c => ?_) (fun c => ?_) <;> simp only [X.den, X.dens, X.denss, D.int_i, D.boo_b, D.str_s, D.rows_l, List.getD_cons_zero, List.getD_cons_succ, List.cons_append, List.nil_append, List.append_nil, List.length_cons, List.length_nil, decide_eq_true_eq, decide_eq_false_iff_not, Bool.not_eq_true', Bool.not_eq_false', Bool.and_eq_true, Bool.and_eq_false_iff, Bool.true_eq_false, Bool.false_eq_true, Bool.not_true, Bool.not_false, eq_self, D.len_l] at c
      · refine To.need (by simp only [X.den, X.dens, X.denss, D.int_i, D.boo_b, D.str_s, D.rows_l, List.getD_cons_zero, List.getD_cons_succ, List.cons_append, List.nil_append, List.append_nil, List.length_cons, List.length_nil, decide_eq_true_eq, decide_eq_false_iff_not, Bool.not_eq_true', Bool.not_eq_false', Bool.and_eq_true, Bool.and_eq_false_iff, Bool.true_eq_false, Bool.false_eq_true, Bool.not_true, Bool.not_false, eq_self, D.len_l]; omega) ?_
        refine To.need (by simp only [X.den, X.dens, X.denss, D.int_i, D.boo_b, D.str_s, D.rows_l, List.getD_cons_zero, List.getD_cons_succ, List.cons_append, List.nil_append, List.append_nil, List.length_cons, List.length_nil, decide_eq_true_eq, decide_eq_false_iff_not, Bool.not_eq_true', Bool.not_eq_false', Bool.and_eq_true, Bool.and_eq_false_iff, Bool.true_eq_false, Bool.false_eq_true, Bool.not_true, Bool.not_false, eq_self, D.len_l]; omega) ?_
        refine To.ite (fun ct => ?_) (fun ct => ?_) <;> simp only [X.den, X.dens, X.denss, D.int_i, D.boo_b, D.str_s, D.rows_l, List.getD_cons_zero, List.getD_cons_succ, List.cons_append, List.nil_append, List.append_nil, List.length_cons, List.length_nil, decide_eq_true_eq, decide_eq_false_iff_not, Bool.not_eq_true', Bool.not_eq_false', Bool.and_eq_true, Bool.and_eq_false_iff, Bool.true_eq_false, Bool.false_eq_true, Bool.not_true, Bool.not_false, eq_self, ce_def] at ct
        · refine To.ret (.inl ⟨rfl, m - 1, by omega, ?_⟩)
          simp (disch := omega) only [X.den, X.dens, X.denss, D.int_i, D.boo_b, D.str_s, D.rows_l, List.getD_cons_zero, List.getD_cons_succ, List.cons_append, List.nil_append, List.append_nil, List.length_cons, List.length_nil, wr64]
          refine ⟨_, rfl, by omega, by omega, fun j j0 j1 => ?_⟩
          by_cases e : j = i
          · subst e; exact ct
          · exact hj j j0 (by omega)
        · exact To.ret (.inr ⟨rfl, .inl ⟨by simp only [X.den, X.dens, X.denss, D.int_i, D.boo_b, D.str_s, D.rows_l, List.getD_cons_zero, List.getD_cons_succ, List.cons_append, List.nil_append, List.append_nil, List.length_cons, List.length_nil], Bool.eq_false_iff.2 fun q => ct ((sameN_true.1 q).2 i i0 (by omega))⟩⟩)
      · exact To.ret (.inr ⟨rfl, .inr ⟨by simp only [X.den, X.dens, X.denss, D.int_i, D.boo_b, D.str_s, D.rows_l, List.getD_cons_zero, List.getD_cons_succ, List.cons_append, List.nil_append, List.append_nil, List.length_cons, List.length_nil], sameN_true.2 ⟨by omega, fun j j0 j1 => hj j j0 (by omega)⟩⟩⟩)
    · rintro o ρ2 (⟨rfl, h⟩ | ⟨rfl, h⟩) eρ
      · simp only [List.cons_append, List.nil_append] at eρ
        subst eρ
        refine ⟨rfl, To.yes rfl (To.ret ?_)⟩
        simp only [X.den, X.dens, X.denss, D.int_i, D.boo_b, D.str_s, D.rows_l, List.getD_cons_zero, List.getD_cons_succ, List.cons_append, List.nil_append, List.append_nil, List.length_cons, List.length_nil, h]
      · simp only [List.cons_append, List.nil_append] at eρ
        subst eρ
        refine ⟨rfl, To.no rfl (To.ret ?_)⟩
        simp only [X.den, X.dens, X.denss, D.int_i, D.boo_b, D.str_s, D.rows_l, List.getD_cons_zero, List.getD_cons_succ, List.cons_append, List.nil_append, List.append_nil, List.length_cons, List.length_nil, h]
  · refine To.ret ?_
    have : sameN x y = false := Bool.eq_false_iff.2 fun q => by have := (sameN_true.1 q).1; omega
    simp only [X.den, X.dens, X.denss, D.int_i, D.boo_b, D.str_s, D.rows_l, List.getD_cons_zero, List.getD_cons_succ, List.cons_append, List.nil_append, List.append_nil, List.length_cons, List.length_nil, this]
theorem rInts_ok : ConOk Try.prog rInts_K (rInts_T.run noM 30) := con_run follows no_cons rInts_t rfl 30
theorem src_take13 {rows : List (List D)} : SrcOk (rows.take (min (min (rows.length : Int) 9223372036854775807) 600).toNat) 0 := ⟨by omega, by omega, by rw [List.length_take]; omega⟩
theorem reS_rng {l : List (List D)} (h : ∀ r ∈ l, ShRow r) (hl : l.length ≤ 8) : (-100 ≤ reS l 0 ∧ reS l 0 ≤ 100) ∧ (-100 ≤ reS l 1 ∧ reS l 1 ≤ 200) ∧ reS l 0 ≤ reS l 1 := by
  have hv := shRow_vd h hl
  unfold reS
  rw [if_pos hv, if_pos hv]
  have a := sumf_bound (f := ce l 0) (a := -9) (b := 5) (n := l.length) fun i a b => by
    obtain ⟨x, y, z, e, ha, hb, hc⟩ := h _ (at_mem a b)
    have e0 : ce l 0 i = x := by simp only [ce, cell_of, e]; rfl
    omega
  have b := sumf_bound (f := ce l 1) (a := -9) (b := 16) (n := l.length) fun i a b => by
    have := shRow_ok h a b
    simp only [okS] at this
    omega
  have c := sumf_le (f := ce l 0) (g := ce l 1) (n := l.length) fun i a b => by
    have := shRow_ok h a b
    simp only [okS] at this
    omega
  omega
end Go.Proofs.Ytlhnhidoljfnnaa
