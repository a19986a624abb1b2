/- Shares: what Divide gives. -/
import Derived.Test.YtlhnhidoljfnnaaShrB
set_option linter.unusedVariables false
set_option linter.unusedSimpArgs false
namespace Go.Proofs.Ytlhnhidoljfnnaa
open Go.RowKit Fx Sh
theorem wru64 {z : Int} (h : 0 ≤ z) (k : z ≤ 18446744073709551615) : IntKind.u64.wrap z = z := wrap_in .u64 z (by have : IntKind.u64.min = 0 := rfl; omega) (by have : IntKind.u64.max = 18446744073709551615 := rfl; omega)
theorem ediv_rng {p c a : Int} (hc : 1 ≤ c) (h0 : -a ≤ p) (h1 : p ≤ a) (ha : 0 ≤ a) : -a ≤ p / c ∧ p / c ≤ a := by
  constructor
  · rw [Int.le_ediv_iff_mul_le (by omega)]
    have := Int.mul_le_mul_of_nonneg_left hc ha
    rw [Int.neg_mul]
    omega
  · have : p / c < a + 1 := by
      rw [Int.ediv_lt_iff_lt_mul (by omega)]
      have := Int.mul_le_mul_of_nonneg_left hc (show 0 ≤ a + 1 by omega)
      omega
    omega
theorem floor_to {n d : Int} (n0 : -1000000000000000000 ≤ n) (n1 : n ≤ 1000000000000000000) (d0 : 1 ≤ d) (d1 : d ≤ 1000000000) : ∃ l, aFloor_T.run noM 0 [.i n, .i d] = some l ∧ l = [.i (n / d), .i 0] := by
  obtain ⟨q1, q2⟩ := tdiv_down (n := n) (show 0 < d by omega)
  have e := Int.mul_ediv_add_emod n d
  have r0 := Int.emod_nonneg n (show d ≠ 0 by omega)
  have r1 := Int.emod_lt_of_pos n (show 0 < d by omega)
  obtain ⟨a1, a2⟩ := tdiv_abs d0 n0 n1
  have t1 := Int.lt_tmod_of_pos n (show 0 < d by omega)
  have t2 := Int.tmod_lt_of_pos n (show 0 < d by omega)
  refine run_to ?_
  unfold aFloor_T
  by_cases hneg : n.tmod d < 0
  · rw [if_pos hneg] at q1 q2
    (repeat' (first
        
        | (refine To.subK (fun K hK => ?_))
        | (refine To.need (by simp (disch := omega) only [X.den, X.dens, X.denss, D.int_i, D.boo_b, D.str_s, D.rows_l, List.getD_cons_zero, List.getD_cons_succ, List.cons_append, List.nil_append, List.append_nil, List.length_cons, List.length_nil, decide_eq_true_eq, decide_eq_false_iff_not, Bool.not_eq_true', Bool.not_eq_false', Bool.and_eq_true, Bool.and_eq_false_iff, Bool.true_eq_false, Bool.false_eq_true, Bool.not_true, Bool.not_false, eq_self, D.len_l, wr64, not_true_eq_false, not_false_eq_true] <;> omega) ?_)
        | (refine To.ite (fun c => ?_) (fun c => ?_) <;> ((try simp (disch := omega) only [X.den, X.dens, X.denss, D.int_i, D.boo_b, D.str_s, D.rows_l, List.getD_cons_zero, List.getD_cons_succ, List.cons_append, List.nil_append, List.append_nil, List.length_cons, List.length_nil, decide_eq_true_eq, decide_eq_false_iff_not, Bool.not_eq_true', Bool.not_eq_false', Bool.and_eq_true, Bool.and_eq_false_iff, Bool.true_eq_false, Bool.false_eq_true, Bool.not_true, Bool.not_false, eq_self, D.len_l, wr64, not_true_eq_false, not_false_eq_true] at c) <;> (try (exfalso; omega))))
        | (refine To.ret ⟨rfl, ?_⟩; (try simp (disch := omega) only [X.den, X.dens, X.denss, D.int_i, D.boo_b, D.str_s, D.rows_l, List.getD_cons_zero, List.getD_cons_succ, List.cons_append, List.nil_append, List.append_nil, List.length_cons, List.length_nil, decide_eq_true_eq, decide_eq_false_iff_not, Bool.not_eq_true', Bool.not_eq_false', Bool.and_eq_true, Bool.and_eq_false_iff, Bool.true_eq_false, Bool.false_eq_true, Bool.not_true, Bool.not_false, eq_self, D.len_l, wr64, not_true_eq_false, not_false_eq_true]); refine hK _ _ (by simp only [List.cons_append, List.nil_append]; first | done | rfl) ?_; clear hK; clear K)))
    all_goals (refine To.ret ?_; simp only [X.den, X.dens, X.denss, D.int_i, D.boo_b, D.str_s, D.rows_l, List.getD_cons_zero, List.getD_cons_succ, List.cons_append, List.nil_append, List.append_nil, List.length_cons, List.length_nil]; simp only [List.cons.injEq, D.i.injEq, and_true]; omega)
  · rw [if_neg hneg] at q1 q2
    (repeat' (first
        
        | (refine To.subK (fun K hK => ?_))
        | (refine To.need (by simp (disch := omega) only [X.den, X.dens, X.denss, D.int_i, D.boo_b, D.str_s, D.rows_l, List.getD_cons_zero, List.getD_cons_succ, List.cons_append, List.nil_append, List.append_nil, List.length_cons, List.length_nil, decide_eq_true_eq, decide_eq_false_iff_not, Bool.not_eq_true', Bool.not_eq_false', Bool.and_eq_true, Bool.and_eq_false_iff, Bool.true_eq_false, Bool.false_eq_true, Bool.not_true, Bool.not_false, eq_self, D.len_l, wr64, not_true_eq_false, not_false_eq_true] <;> omega) ?_)
        | (refine To.ite (fun c => ?_) (fun c => ?_) <;> ((try simp (disch := omega) only [X.den, X.dens, X.denss, D.int_i, D.boo_b, D.str_s, D.rows_l, List.getD_cons_zero, List.getD_cons_succ, List.cons_append, List.nil_append, List.append_nil, List.length_cons, List.length_nil, decide_eq_true_eq, decide_eq_false_iff_not, Bool.not_eq_true', Bool.not_eq_false', Bool.and_eq_true, Bool.and_eq_false_iff, Bool.true_eq_false, Bool.false_eq_true, Bool.not_true, Bool.not_false, eq_self, D.len_l, wr64, not_true_eq_false, not_false_eq_true] at c) <;> (try (exfalso; omega))))
        | (refine To.ret ⟨rfl, ?_⟩; (try simp (disch := omega) only [X.den, X.dens, X.denss, D.int_i, D.boo_b, D.str_s, D.rows_l, List.getD_cons_zero, List.getD_cons_succ, List.cons_append, List.nil_append, List.append_nil, List.length_cons, List.length_nil, decide_eq_true_eq, decide_eq_false_iff_not, Bool.not_eq_true', Bool.not_eq_false', Bool.and_eq_true, Bool.and_eq_false_iff, Bool.true_eq_false, Bool.false_eq_true, Bool.not_true, Bool.not_false, eq_self, D.len_l, wr64, not_true_eq_false, not_false_eq_true]); refine hK _ _ (by simp only [List.cons_append, List.nil_append]; first | done | rfl) ?_; clear hK; clear K)))
    all_goals (refine To.ret ?_; simp only [X.den, X.dens, X.denss, D.int_i, D.boo_b, D.str_s, D.rows_l, List.getD_cons_zero, List.getD_cons_succ, List.cons_append, List.nil_append, List.append_nil, List.length_cons, List.length_nil]; simp only [List.cons.injEq, D.i.injEq, and_true]; omega)
theorem aFloor_ok : ConOk Try.prog aFloor_K (aFloor_T.run noM 0) := con_run follows no_cons aFloor_t rfl 0
/-- rows of one number each -/
def One (y : List (List D)) : Prop := ∀ r ∈ y, ∃ d : D, r = [d]
def putz (y : List (List D)) (k v : Int) : List (List D) := y.set k.toNat ((y.getD k.toNat []).set 0 (.i v))
theorem putz_def {y : List (List D)} {k v : Int} : (D.l y).put k 0 (.i v) = .l (putz y k v) := rfl
theorem putz_len {y : List (List D)} {k v : Int} : (putz y k v).length = y.length := by simp only [putz, List.length_set]
theorem one_at {y : List (List D)} (h : One y) {k : Nat} (hk : k < y.length) : ∃ d : D, y.getD k [] = [d] := by
  rw [List.getD_eq_getElem?_getD, List.getElem?_eq_getElem hk, Option.getD_some]
  exact h _ (List.getElem_mem _)
theorem putz_one {y : List (List D)} {k v : Int} (h : One y) : One (putz y k v) := by
  intro r hr
  by_cases hk : k.toNat < y.length
  · rcases List.mem_or_eq_of_mem_set hr with h1 | h1
    · exact h r h1
    · obtain ⟨z, hz⟩ := one_at h hk
      rw [hz] at h1
      exact ⟨.i v, h1⟩
  · rw [putz, List.set_eq_of_length_le (by omega)] at hr
    exact h r hr
theorem putz_ce {y : List (List D)} {k v i : Int} (h : One y) (k0 : 0 ≤ k) (k1 : k < y.length) (i0 : 0 ≤ i) : ce (putz y k v) 0 i = if i = k then v else ce y 0 i := by
  have hk : k.toNat < y.length := by omega
  simp only [ce, cell_of, putz]
  split
  · rename_i e
    subst e
    rw [List.getD_eq_getElem?_getD (l := y.set _ _), List.getElem?_set_self hk, Option.getD_some]
    obtain ⟨z, hz⟩ := one_at h hk
    rw [hz]
    rfl
  · rw [List.getD_eq_getElem?_getD (l := y.set _ _), List.getElem?_set_ne (by omega), ← List.getD_eq_getElem?_getD]
theorem rep_one {n : Nat} {z : Int} : One (List.replicate n [.i z]) := fun r hr => ⟨.i z, List.eq_of_mem_replicate hr⟩
/-- the numbers if each variable takes the steps up to a price -/
def upF (l : List (List D)) (p i : Int) : Int := up (ce l 0 i) (ce l 1 i) (ce l 2 i) p
theorem upF_rng {l : List (List D)} {p i : Int} (h : okS l i) : ce l 0 i ≤ upF l p i ∧ upF l p i ≤ ce l 1 i := by
  simp only [okS] at h
  exact (up_spec (p := p) (by omega) (by omega)).1
theorem upF_low {l : List (List D)} {p i : Int} (h : okS l i) (hp : p ≤ -1000200) : upF l p i = ce l 0 i := by
  have a := up_spec (p := p) (lo := ce l 0 i) (hi := ce l 1 i) (c := ce l 2 i) (by simp only [okS] at h; omega) (by simp only [okS] at h; omega)
  have e : up (ce l 0 i) (ce l 1 i) (ce l 2 i) p = upF l p i := rfl
  rw [e] at a
  simp only [okS] at h
  obtain ⟨⟨a1, a2⟩, a3, a4⟩ := a
  apply Classical.byContradiction
  intro ne
  have b := a3 (by omega)
  generalize ce l 2 i = c at *
  have := Int.mul_le_mul_of_nonneg_left (show -10001 ≤ 2 * upF l p i - 1 by omega) (show 0 ≤ c by omega)
  omega
theorem upF_high {l : List (List D)} {p i : Int} (h : okS l i) (hp : 1000200 ≤ p) : upF l p i = ce l 1 i := by
  have a := up_spec (p := p) (lo := ce l 0 i) (hi := ce l 1 i) (c := ce l 2 i) (by simp only [okS] at h; omega) (by simp only [okS] at h; omega)
  have e : up (ce l 0 i) (ce l 1 i) (ce l 2 i) p = upF l p i := rfl
  rw [e] at a
  simp only [okS] at h
  obtain ⟨⟨a1, a2⟩, a3, a4⟩ := a
  apply Classical.byContradiction
  intro ne
  have b := a4 (by omega)
  generalize ce l 2 i = c at *
  have := Int.mul_le_mul_of_nonneg_left (show 2 * upF l p i + 1 ≤ 10001 by omega) (show 0 ≤ c by omega)
  omega
theorem cell_int {d : D} (h : d.int ≠ 0) : d = .i d.int := by
  cases d with
  | i z => rfl
  | _ => exact absurd rfl h
theorem cost_cell {l : List (List D)} {i : Int} (h : okS l i) : (D.l l).cell i 2 = .i (ce l 2 i) := by
  simp only [okS] at h
  exact cell_int (show ce l 2 i ≠ 0 by omega)
def dvM : Models := Models.on aFloor_K.f (aFloor_T.run noM 0) (Models.on shReach_K.f (shReach_T.run reM 30) noM)
def DivOk (l : List (List D)) (g : Int) (x : List (List D)) : Prop := One x ∧ x.length = l.length ∧ Rng l.length (ce l 0) (ce l 1) (ce x 0) ∧ sumf (ce x 0) l.length = g ∧ Lex l.length (ce l 0) (ce l 1) (ce l 2) (ce x 0)
theorem divide_bad {l : List (List D)} {t : Int} (h : ¬ vd l = 0) : ∃ o, shDivide_T.run dvM 30 [.l l, .i t] = some o ∧ o = [.l [], .i 0, .i (vd l)] := by
  refine run_to ?_
  unfold shDivide_T
  refine To.viaK (by (try simp (disch := omega) only [X.den, X.dens, X.denss, D.int_i, D.boo_b, D.str_s, D.rows_l, List.getD_cons_zero, List.getD_cons_succ, List.cons_append, List.nil_append, List.append_nil, List.length_cons, List.length_nil, decide_eq_true_eq, decide_eq_false_iff_not, Bool.not_eq_true', Bool.not_eq_false', Bool.and_eq_true, Bool.and_eq_false_iff, Bool.true_eq_false, Bool.false_eq_true, Bool.not_true, Bool.not_false, eq_self, D.len_l, wr64, not_true_eq_false, not_false_eq_true]); exact reach_gen) ?_
  rintro _ ρ2 rfl eρ
  refine ⟨rfl, ?_⟩
  simp only [List.cons_append, List.nil_append] at eρ
  subst eρ
  refine To.no (by simp only [X.den, X.dens, X.denss, D.int_i, D.boo_b, D.str_s, D.rows_l, List.getD_cons_zero, List.getD_cons_succ, List.cons_append, List.nil_append, List.append_nil, List.length_cons, List.length_nil, decide_eq_true_eq, decide_eq_false_iff_not, Bool.not_eq_true', Bool.not_eq_false', Bool.and_eq_true, Bool.and_eq_false_iff, Bool.true_eq_false, Bool.false_eq_true, Bool.not_true, Bool.not_false, eq_self]; exact h) (To.ret ?_)
  simp only [X.den, X.dens, X.denss, D.int_i, D.boo_b, D.str_s, D.rows_l, List.getD_cons_zero, List.getD_cons_succ, List.cons_append, List.nil_append, List.append_nil, List.length_cons, List.length_nil, X.denss]
theorem divide_far {l : List (List D)} {t : Int} (h : vd l = 0) (ht : t < -500000 ∨ 500000 < t) : ∃ o, shDivide_T.run dvM 30 [.l l, .i t] = some o ∧ o = [.l [], .i 0, .i 1] := by
  refine run_to ?_
  unfold shDivide_T
  refine To.viaK (by (try simp (disch := omega) only [X.den, X.dens, X.denss, D.int_i, D.boo_b, D.str_s, D.rows_l, List.getD_cons_zero, List.getD_cons_succ, List.cons_append, List.nil_append, List.append_nil, List.length_cons, List.length_nil, decide_eq_true_eq, decide_eq_false_iff_not, Bool.not_eq_true', Bool.not_eq_false', Bool.and_eq_true, Bool.and_eq_false_iff, Bool.true_eq_false, Bool.false_eq_true, Bool.not_true, Bool.not_false, eq_self, D.len_l, wr64, not_true_eq_false, not_false_eq_true]); exact reach_gen) ?_
  rintro _ ρ2 rfl eρ
  refine ⟨rfl, ?_⟩
  simp only [List.cons_append, List.nil_append] at eρ
  subst eρ
  refine To.yes (by simp only [X.den, X.dens, X.denss, D.int_i, D.boo_b, D.str_s, D.rows_l, List.getD_cons_zero, List.getD_cons_succ, List.cons_append, List.nil_append, List.append_nil, List.length_cons, List.length_nil, decide_eq_true_eq, decide_eq_false_iff_not, Bool.not_eq_true', Bool.not_eq_false', Bool.and_eq_true, Bool.and_eq_false_iff, Bool.true_eq_false, Bool.false_eq_true, Bool.not_true, Bool.not_false, eq_self]; exact h) ?_
  refine To.joinK (fun o => o = [.b true]) ?_ ?_
  · refine To.ite (fun c => ?_) (fun c => ?_) <;> simp only [X.den, X.dens, X.denss, D.int_i, D.boo_b, D.str_s, D.rows_l, List.getD_cons_zero, List.getD_cons_succ, List.cons_append, List.nil_append, List.append_nil, List.length_cons, List.length_nil, decide_eq_true_eq, decide_eq_false_iff_not, Bool.not_eq_true', Bool.not_eq_false', Bool.and_eq_true, Bool.and_eq_false_iff, Bool.true_eq_false, Bool.false_eq_true, Bool.not_true, Bool.not_false, eq_self] at c
    · exact To.ret ⟨rfl, by simp only [X.den, X.dens, X.denss, D.int_i, D.boo_b, D.str_s, D.rows_l, List.getD_cons_zero, List.getD_cons_succ, List.cons_append, List.nil_append, List.append_nil, List.length_cons, List.length_nil]⟩
    · refine To.ret ⟨rfl, ?_⟩
      simp only [X.den, X.dens, X.denss, D.int_i, D.boo_b, D.str_s, D.rows_l, List.getD_cons_zero, List.getD_cons_succ, List.cons_append, List.nil_append, List.append_nil, List.length_cons, List.length_nil]
      rw [decide_eq_true (by omega)]
  · rintro o ρ2 rfl eρ
    simp only [List.cons_append, List.nil_append] at eρ
    subst eρ
    refine To.yes rfl (To.ret ?_)
    simp only [X.den, X.dens, X.denss, D.int_i, D.boo_b, D.str_s, D.rows_l, List.getD_cons_zero, List.getD_cons_succ, List.cons_append, List.nil_append, List.append_nil, List.length_cons, List.length_nil, X.denss]
theorem pow_half {m : Nat} {a b : Int} (h : b - a < 2 ^ m) (hl : a < b) : ∃ m', m = m' + 1 ∧ (b - a < 2 * 2 ^ m') := by
  match m, h with
  | 0, h => exact absurd h (by simp; omega)
  | m + 1, h => exact ⟨m, rfl, by rw [Int.pow_succ] at h; omega⟩
theorem divide_gen {l : List (List D)} {t : Int} (h : vd l = 0) (t0 : -500000 ≤ t) (t1 : t ≤ 500000) : ∃ o, shDivide_T.run dvM 30 [.l l, .i t] = some o ∧ ∃ x, o = [.l x, .i (t - goal l t), .i 0] ∧ DivOk l (goal l t) x := by
  obtain ⟨h8, hv⟩ := vd_zero h
  have hg : goal l t = max (reS l 0) (min t (reS l 1)) := rfl
  have q0 : reS l 0 = sumf (ce l 0) l.length := by unfold reS; rw [if_pos h]
  have q1 : reS l 1 = sumf (ce l 1) l.length := by unfold reS; rw [if_pos h]
  have lohi : sumf (ce l 0) l.length ≤ sumf (ce l 1) l.length := sumf_le fun i a b => by have := hv i a b; simp only [okS] at this; omega
  have sr := sum_rng hv l.length (by omega)
  have hb : ∀ (p : Int) (k : Nat), k ≤ l.length → -5000 * (k : Int) ≤ sumf (upF l p) k ∧ sumf (upF l p) k ≤ 5000 * k := fun p k hk => sumf_bound fun i i0 i1 => by
    have a := hv i i0 (by omega)
    have b := upF_rng (p := p) a
    simp only [okS] at a
    omega
  refine run_to ?_
  unfold shDivide_T
  refine To.viaK (by (try simp (disch := omega) only [X.den, X.dens, X.denss, D.int_i, D.boo_b, D.str_s, D.rows_l, List.getD_cons_zero, List.getD_cons_succ, List.cons_append, List.nil_append, List.append_nil, List.length_cons, List.length_nil, decide_eq_true_eq, decide_eq_false_iff_not, Bool.not_eq_true', Bool.not_eq_false', Bool.and_eq_true, Bool.and_eq_false_iff, Bool.true_eq_false, Bool.false_eq_true, Bool.not_true, Bool.not_false, eq_self, D.len_l, wr64, not_true_eq_false, not_false_eq_true]); exact reach_gen) ?_
  rintro _ ρ2 rfl eρ
  refine ⟨rfl, ?_⟩
  simp only [List.cons_append, List.nil_append] at eρ
  subst eρ
  refine To.yes (by simp only [X.den, X.dens, X.denss, D.int_i, D.boo_b, D.str_s, D.rows_l, List.getD_cons_zero, List.getD_cons_succ, List.cons_append, List.nil_append, List.append_nil, List.length_cons, List.length_nil, decide_eq_true_eq, decide_eq_false_iff_not, Bool.not_eq_true', Bool.not_eq_false', Bool.and_eq_true, Bool.and_eq_false_iff, Bool.true_eq_false, Bool.false_eq_true, Bool.not_true, Bool.not_false, eq_self]; exact h) ?_
  refine To.joinK (fun o => o = [.b false]) ?_ ?_
  · refine To.ite (fun c => ?_) (fun c => ?_) <;> simp only [X.den, X.dens, X.denss, D.int_i, D.boo_b, D.str_s, D.rows_l, List.getD_cons_zero, List.getD_cons_succ, List.cons_append, List.nil_append, List.append_nil, List.length_cons, List.length_nil, decide_eq_true_eq, decide_eq_false_iff_not, Bool.not_eq_true', Bool.not_eq_false', Bool.and_eq_true, Bool.and_eq_false_iff, Bool.true_eq_false, Bool.false_eq_true, Bool.not_true, Bool.not_false, eq_self] at c
    · exfalso; omega
    · refine To.ret ⟨rfl, ?_⟩
      simp only [X.den, X.dens, X.denss, D.int_i, D.boo_b, D.str_s, D.rows_l, List.getD_cons_zero, List.getD_cons_succ, List.cons_append, List.nil_append, List.append_nil, List.length_cons, List.length_nil]
      rw [decide_eq_false (by omega)]
  rintro o ρ2 rfl eρ
  simp only [List.cons_append, List.nil_append] at eρ
  subst eρ
  refine To.no rfl ?_
  generalize goal l t = g at *
  refine To.loopK (fun m o => ∃ a b : Int, o = [.i a, .i b] ∧ 0 ≤ a ∧ a ≤ b ∧ b ≤ 2000400 ∧ b - a < 2 ^ m ∧ (a = 0 ∨ sumf (upF l (a - 1000201)) l.length < g) ∧ (b = 2000400 ∨ g ≤ sumf (upF l (b - 1000200)) l.length)) (fun o => ∃ a : Int, o = [.i a] ∧ 0 ≤ a ∧ a ≤ 2000400 ∧ (a = 0 ∨ sumf (upF l (a - 1000201)) l.length < g) ∧ (a = 2000400 ∨ g ≤ sumf (upF l (a - 1000200)) l.length)) 21 (by omega) ?_ ?_ ?_
  · exact ⟨0, 2000400, by simp only [X.den, X.dens, X.denss, D.int_i, D.boo_b, D.str_s, D.rows_l, List.getD_cons_zero, List.getD_cons_succ, List.cons_append, List.nil_append, List.append_nil, List.length_cons, List.length_nil], by omega, by omega, by omega, by decide, .inl rfl, .inl rfl⟩
  · rintro m o ρ2 ⟨a, b, rfl, a0, ab, b1, hm, ha, hbb⟩ eρ
    simp only [List.cons_append, List.nil_append] at eρ
    subst eρ
    refine To.ite (fun c => ?_) (fun c => ?_) <;> simp only [X.den, X.dens, X.denss, D.int_i, D.boo_b, D.str_s, D.rows_l, List.getD_cons_zero, List.getD_cons_succ, List.cons_append, List.nil_append, List.append_nil, List.length_cons, List.length_nil, decide_eq_true_eq, decide_eq_false_iff_not, Bool.not_eq_true', Bool.not_eq_false', Bool.and_eq_true, Bool.and_eq_false_iff, Bool.true_eq_false, Bool.false_eq_true, Bool.not_true, Bool.not_false, eq_self] at c
    · obtain ⟨m', rfl, hm'⟩ := pow_half hm c
      refine To.need (by simp only [X.den, X.dens, X.denss, D.int_i, D.boo_b, D.str_s, D.rows_l, List.getD_cons_zero, List.getD_cons_succ, List.cons_append, List.nil_append, List.append_nil, List.length_cons, List.length_nil, decide_eq_true_eq, decide_eq_false_iff_not, Bool.not_eq_true', Bool.not_eq_false', Bool.and_eq_true, Bool.and_eq_false_iff, Bool.true_eq_false, Bool.false_eq_true, Bool.not_true, Bool.not_false, eq_self, D.len_l]; omega) ?_
      have eq : ((a + b).tdiv 2) = (a + b) / 2 := Int.tdiv_eq_ediv_of_nonneg (by omega)
      obtain ⟨h2, eh⟩ : ∃ h2 : Int, (a + b) / 2 = h2 := ⟨_, rfl⟩
      have hmid : a ≤ h2 ∧ h2 < b := by omega
      refine To.loopK (fun m o => ∃ (y : List (List D)) (k : Nat), o = [.l y, .i k] ∧ k + m = l.length ∧ y.length = l.length ∧ One y ∧ ∀ i : Int, 0 ≤ i → i < k → ce y 0 i = upF l (h2 - 1000200) i) (fun o => ∃ y : List (List D), o = [.l y] ∧ y.length = l.length ∧ ∀ i : Int, 0 ≤ i → i < l.length → ce y 0 i = upF l (h2 - 1000200) i) l.length (by omega) ?_ ?_ ?_
      · refine ⟨List.replicate l.length [.i 0], 0, ?_, by omega, List.length_replicate, rep_one, by intro i; omega⟩
        simp only [X.den, X.dens, X.denss, D.int_i, D.boo_b, D.str_s, D.rows_l, List.getD_cons_zero, List.getD_cons_succ, List.cons_append, List.nil_append, List.append_nil, List.length_cons, List.length_nil, D.len_l]
        rw [show (min (l.length : Int) 9223372036854775807).toNat = l.length by omega]
        rfl
      · rintro m o ρ2 ⟨y, k, rfl, hk, hy, h1, hi⟩ eρ
        simp only [List.cons_append, List.nil_append] at eρ
        subst eρ
        refine To.ite (fun c => ?_) (fun c => ?_) <;> simp only [X.den, X.dens, X.denss, D.int_i, D.boo_b, D.str_s, D.rows_l, List.getD_cons_zero, List.getD_cons_succ, List.cons_append, List.nil_append, List.append_nil, List.length_cons, List.length_nil, decide_eq_true_eq, decide_eq_false_iff_not, Bool.not_eq_true', Bool.not_eq_false', Bool.and_eq_true, Bool.and_eq_false_iff, Bool.true_eq_false, Bool.false_eq_true, Bool.not_true, Bool.not_false, eq_self, D.len_l] at c
        · refine To.need (by simp only [X.den, X.dens, X.denss, D.int_i, D.boo_b, D.str_s, D.rows_l, List.getD_cons_zero, List.getD_cons_succ, List.cons_append, List.nil_append, List.append_nil, List.length_cons, List.length_nil, decide_eq_true_eq, decide_eq_false_iff_not, Bool.not_eq_true', Bool.not_eq_false', Bool.and_eq_true, Bool.and_eq_false_iff, Bool.true_eq_false, Bool.false_eq_true, Bool.not_true, Bool.not_false, eq_self, D.len_l]; omega) ?_
          have ok := hv k (by omega) (by omega)
          have ok2 := ok
          simp only [okS] at ok2
          have cc := cost_cell ok
          have er := ediv_rng (p := h2 - 1000200) (c := ce l 2 k) (a := 2000400) (by omega) (by omega) (by omega) (by omega)
          refine To.viaK (by (try simp (disch := omega) only [X.den, X.dens, X.denss, D.int_i, D.boo_b, D.str_s, D.rows_l, List.getD_cons_zero, List.getD_cons_succ, List.cons_append, List.nil_append, List.append_nil, List.length_cons, List.length_nil, decide_eq_true_eq, decide_eq_false_iff_not, Bool.not_eq_true', Bool.not_eq_false', Bool.and_eq_true, Bool.and_eq_false_iff, Bool.true_eq_false, Bool.false_eq_true, Bool.not_true, Bool.not_false, eq_self, D.len_l, wr64, not_true_eq_false, not_false_eq_true, wru64, eq, eh, cc]); exact floor_to (n := h2 - 1000200) (d := ce l 2 k) (by omega) (by omega) (by omega) (by omega)) ?_
          rintro _ ρ2 rfl eρ
          refine ⟨rfl, ?_⟩
          simp only [List.cons_append, List.nil_append] at eρ
          subst eρ
          refine To.viaK (by (try simp (disch := omega) only [X.den, X.dens, X.denss, D.int_i, D.boo_b, D.str_s, D.rows_l, List.getD_cons_zero, List.getD_cons_succ, List.cons_append, List.nil_append, List.append_nil, List.length_cons, List.length_nil, decide_eq_true_eq, decide_eq_false_iff_not, Bool.not_eq_true', Bool.not_eq_false', Bool.and_eq_true, Bool.and_eq_false_iff, Bool.true_eq_false, Bool.false_eq_true, Bool.not_true, Bool.not_false, eq_self, D.len_l, wr64, not_true_eq_false, not_false_eq_true, wru64, eq, eh, cc]); exact floor_to (n := (h2 - 1000200) / ce l 2 k + 1) (d := 2) (by omega) (by omega) (by omega) (by omega)) ?_
          rintro _ ρ2 rfl eρ
          refine ⟨rfl, ?_⟩
          simp only [List.cons_append, List.nil_append] at eρ
          subst eρ
          refine To.need (by simp only [X.den, X.dens, X.denss, D.int_i, D.boo_b, D.str_s, D.rows_l, List.getD_cons_zero, List.getD_cons_succ, List.cons_append, List.nil_append, List.append_nil, List.length_cons, List.length_nil, decide_eq_true_eq, decide_eq_false_iff_not, Bool.not_eq_true', Bool.not_eq_false', Bool.and_eq_true, Bool.and_eq_false_iff, Bool.true_eq_false, Bool.false_eq_true, Bool.not_true, Bool.not_false, eq_self, D.len_l]; omega) ?_
          refine To.ret (.inl ⟨rfl, m - 1, by omega, putz y k (upF l (h2 - 1000200) k), k + 1, ?_, by omega, by rw [putz_len]; exact hy, putz_one h1, fun i i0 i1 => ?_⟩)
          · simp (disch := omega) only [X.den, X.dens, X.denss, D.int_i, D.boo_b, D.str_s, D.rows_l, List.getD_cons_zero, List.getD_cons_succ, List.cons_append, List.nil_append, List.append_nil, List.length_cons, List.length_nil, wr64, ce_def, putz_def, nat_succ]
            rfl
          · rw [putz_ce h1 (by omega) (by omega) i0]
            split
            · rename_i e; rw [e]
            · exact hi i i0 (by omega)
        · obtain rfl : k = l.length := by omega
          exact To.ret (.inr ⟨rfl, y, by simp only [X.den, X.dens, X.denss, D.int_i, D.boo_b, D.str_s, D.rows_l, List.getD_cons_zero, List.getD_cons_succ, List.cons_append, List.nil_append, List.append_nil, List.length_cons, List.length_nil], hy, fun i i0 i1 => hi i i0 i1⟩)
      · rintro o ρ2 ⟨y, rfl, hy, hi⟩ eρ
        simp only [List.cons_append, List.nil_append] at eρ
        subst eρ
        refine ⟨rfl, ?_⟩
        have hb2 := hb (h2 - 1000200)
        have sy : ∀ k : Nat, k ≤ l.length → sumf (ce y 0) k = sumf (upF l (h2 - 1000200)) k := fun k hk => sumf_congr fun i i0 i1 => hi i i0 (by omega)
        refine To.loopK (fun m o => ∃ k : Nat, o = [.i (sumf (ce y 0) k), .i k] ∧ k + m = l.length) (fun o => o = [.i (sumf (upF l (h2 - 1000200)) l.length)]) l.length (by omega) ?_ ?_ ?_
        · exact ⟨0, rfl, by omega⟩
        · rintro m o ρ2 ⟨k, rfl, hk⟩ eρ
          simp only [List.cons_append, List.nil_append] at eρ
          subst eρ
          refine To.ite (fun c => ?_) (fun c => ?_) <;> simp only [X.den, X.dens, X.denss, D.int_i, D.boo_b, D.str_s, D.rows_l, List.getD_cons_zero, List.getD_cons_succ, List.cons_append, List.nil_append, List.append_nil, List.length_cons, List.length_nil, decide_eq_true_eq, decide_eq_false_iff_not, Bool.not_eq_true', Bool.not_eq_false', Bool.and_eq_true, Bool.and_eq_false_iff, Bool.true_eq_false, Bool.false_eq_true, Bool.not_true, Bool.not_false, eq_self, D.len_l] at c
          · refine To.need (by simp only [X.den, X.dens, X.denss, D.int_i, D.boo_b, D.str_s, D.rows_l, List.getD_cons_zero, List.getD_cons_succ, List.cons_append, List.nil_append, List.append_nil, List.length_cons, List.length_nil, decide_eq_true_eq, decide_eq_false_iff_not, Bool.not_eq_true', Bool.not_eq_false', Bool.and_eq_true, Bool.and_eq_false_iff, Bool.true_eq_false, Bool.false_eq_true, Bool.not_true, Bool.not_false, eq_self, D.len_l]; omega) ?_
            have b2 := hb2 (k + 1) (by omega)
            rw [← sy (k + 1) (by omega)] at b2
            simp only [sumf] at b2
            refine To.ret (.inl ⟨rfl, m - 1, by omega, k + 1, ?_, by omega⟩)
            simp (disch := omega) only [X.den, X.dens, X.denss, D.int_i, D.boo_b, D.str_s, D.rows_l, List.getD_cons_zero, List.getD_cons_succ, List.cons_append, List.nil_append, List.append_nil, List.length_cons, List.length_nil, wr64, ce_def, sumf, nat_succ]
          · obtain rfl : k = l.length := by omega
            exact To.ret (.inr ⟨rfl, by simp only [X.den, X.dens, X.denss, D.int_i, D.boo_b, D.str_s, D.rows_l, List.getD_cons_zero, List.getD_cons_succ, List.cons_append, List.nil_append, List.append_nil, List.length_cons, List.length_nil]; rw [sy _ (by omega)]⟩)
        · rintro o ρ2 rfl eρ
          simp only [List.cons_append, List.nil_append] at eρ
          subst eρ
          refine ⟨rfl, ?_⟩
          refine To.ite (fun c => ?_) (fun c => ?_) <;> simp only [X.den, X.dens, X.denss, D.int_i, D.boo_b, D.str_s, D.rows_l, List.getD_cons_zero, List.getD_cons_succ, List.cons_append, List.nil_append, List.append_nil, List.length_cons, List.length_nil, decide_eq_true_eq, decide_eq_false_iff_not, Bool.not_eq_true', Bool.not_eq_false', Bool.and_eq_true, Bool.and_eq_false_iff, Bool.true_eq_false, Bool.false_eq_true, Bool.not_true, Bool.not_false, eq_self] at c
          · rw [← hg] at c
            refine To.ret (.inl ⟨rfl, m', by omega, h2 + 1, b, ?_, by omega, by omega, by omega, by omega, .inr ?_, hbb⟩)
            · simp (disch := omega) only [X.den, X.dens, X.denss, D.int_i, D.boo_b, D.str_s, D.rows_l, List.getD_cons_zero, List.getD_cons_succ, List.cons_append, List.nil_append, List.append_nil, List.length_cons, List.length_nil, wr64, wru64, eq, eh]
            · rw [show h2 + 1 - 1000201 = h2 - 1000200 by omega]; exact c
          · rw [← hg] at c
            refine To.ret (.inl ⟨rfl, m', by omega, a, h2, ?_, by omega, by omega, by omega, by omega, ha, .inr (by omega)⟩)
            simp (disch := omega) only [X.den, X.dens, X.denss, D.int_i, D.boo_b, D.str_s, D.rows_l, List.getD_cons_zero, List.getD_cons_succ, List.cons_append, List.nil_append, List.append_nil, List.length_cons, List.length_nil, wr64, wru64, eq, eh]
    · exact To.ret (.inr ⟨rfl, a, by simp only [X.den, X.dens, X.denss, D.int_i, D.boo_b, D.str_s, D.rows_l, List.getD_cons_zero, List.getD_cons_succ, List.cons_append, List.nil_append, List.append_nil, List.length_cons, List.length_nil], a0, by omega, ha, by rcases hbb with hbb | hbb; exact .inl (by omega); exact .inr (by rw [show a = b by omega]; exact hbb)⟩)
  rintro o ρ2 ⟨r, rfl, r0, r1, ra, rb⟩ eρ
  simp only [List.cons_append, List.nil_append] at eρ
  subst eρ
  refine ⟨rfl, ?_⟩
  obtain ⟨p, ep⟩ : ∃ p : Int, p = r - 1000200 := ⟨_, rfl⟩
  have pa : sumf (upF l (p - 1)) l.length ≤ g := by
    rcases ra with ra | ra
    · have : sumf (upF l (p - 1)) l.length = sumf (ce l 0) l.length := sumf_congr fun i i0 i1 => upF_low (hv i i0 i1) (by omega)
      omega
    · rw [show r - 1000201 = p - 1 by omega] at ra; omega
  have pb : g ≤ sumf (upF l p) l.length := by
    rcases rb with rb | rb
    · have : sumf (upF l p) l.length = sumf (ce l 1) l.length := sumf_congr fun i i0 i1 => upF_high (hv i i0 i1) (by omega)
      omega
    · rw [← ep] at rb; exact rb
  refine To.need (by simp only [X.den, X.dens, X.denss, D.int_i, D.boo_b, D.str_s, D.rows_l, List.getD_cons_zero, List.getD_cons_succ, List.cons_append, List.nil_append, List.append_nil, List.length_cons, List.length_nil, decide_eq_true_eq, decide_eq_false_iff_not, Bool.not_eq_true', Bool.not_eq_false', Bool.and_eq_true, Bool.and_eq_false_iff, Bool.true_eq_false, Bool.false_eq_true, Bool.not_true, Bool.not_false, eq_self, D.len_l]; omega) ?_
  refine To.loopK (fun m o => ∃ (y : List (List D)) (k : Nat), o = [.l y, .i k] ∧ k + m = l.length ∧ y.length = l.length ∧ One y ∧ ∀ i : Int, 0 ≤ i → i < k → ce y 0 i = upF l (p - 1) i) (fun o => ∃ y : List (List D), o = [.l y] ∧ y.length = l.length ∧ One y ∧ ∀ i : Int, 0 ≤ i → i < l.length → ce y 0 i = upF l (p - 1) i) l.length (by omega) ?_ ?_ ?_
  · refine ⟨List.replicate l.length [.i 0], 0, ?_, by omega, List.length_replicate, rep_one, by intro i; omega⟩
    simp only [X.den, X.dens, X.denss, D.int_i, D.boo_b, D.str_s, D.rows_l, List.getD_cons_zero, List.getD_cons_succ, List.cons_append, List.nil_append, List.append_nil, List.length_cons, List.length_nil, D.len_l]
    rw [show (min (l.length : Int) 9223372036854775807).toNat = l.length by omega]
    rfl
  · rintro m o ρ2 ⟨y, k, rfl, hk, hy, h1, hi⟩ eρ
    simp only [List.cons_append, List.nil_append] at eρ
    subst eρ
    refine To.ite (fun c => ?_) (fun c => ?_) <;> simp only [X.den, X.dens, X.denss, D.int_i, D.boo_b, D.str_s, D.rows_l, List.getD_cons_zero, List.getD_cons_succ, List.cons_append, List.nil_append, List.append_nil, List.length_cons, List.length_nil, decide_eq_true_eq, decide_eq_false_iff_not, Bool.not_eq_true', Bool.not_eq_false', Bool.and_eq_true, Bool.and_eq_false_iff, Bool.true_eq_false, Bool.false_eq_true, Bool.not_true, Bool.not_false, eq_self, D.len_l] at c
    · refine To.need (by simp only [X.den, X.dens, X.denss, D.int_i, D.boo_b, D.str_s, D.rows_l, List.getD_cons_zero, List.getD_cons_succ, List.cons_append, List.nil_append, List.append_nil, List.length_cons, List.length_nil, decide_eq_true_eq, decide_eq_false_iff_not, Bool.not_eq_true', Bool.not_eq_false', Bool.and_eq_true, Bool.and_eq_false_iff, Bool.true_eq_false, Bool.false_eq_true, Bool.not_true, Bool.not_false, eq_self, D.len_l]; omega) ?_
      have ok := hv k (by omega) (by omega)
      have ok2 := ok
      simp only [okS] at ok2
      have cc := cost_cell ok
      have er := ediv_rng (p := p - 1) (c := ce l 2 k) (a := 2000400) (by omega) (by omega) (by omega) (by omega)
      have e1 : -1000200 + r - 1 = p - 1 := by omega
      refine To.viaK (by (try simp (disch := omega) only [X.den, X.dens, X.denss, D.int_i, D.boo_b, D.str_s, D.rows_l, List.getD_cons_zero, List.getD_cons_succ, List.cons_append, List.nil_append, List.append_nil, List.length_cons, List.length_nil, decide_eq_true_eq, decide_eq_false_iff_not, Bool.not_eq_true', Bool.not_eq_false', Bool.and_eq_true, Bool.and_eq_false_iff, Bool.true_eq_false, Bool.false_eq_true, Bool.not_true, Bool.not_false, eq_self, D.len_l, wr64, not_true_eq_false, not_false_eq_true, e1, cc]); exact floor_to (n := p - 1) (d := ce l 2 k) (by omega) (by omega) (by omega) (by omega)) ?_
      rintro _ ρ2 rfl eρ
      refine ⟨rfl, ?_⟩
      simp only [List.cons_append, List.nil_append] at eρ
      subst eρ
      refine To.viaK (by (try simp (disch := omega) only [X.den, X.dens, X.denss, D.int_i, D.boo_b, D.str_s, D.rows_l, List.getD_cons_zero, List.getD_cons_succ, List.cons_append, List.nil_append, List.append_nil, List.length_cons, List.length_nil, decide_eq_true_eq, decide_eq_false_iff_not, Bool.not_eq_true', Bool.not_eq_false', Bool.and_eq_true, Bool.and_eq_false_iff, Bool.true_eq_false, Bool.false_eq_true, Bool.not_true, Bool.not_false, eq_self, D.len_l, wr64, not_true_eq_false, not_false_eq_true, e1, cc]); exact floor_to (n := (p - 1) / ce l 2 k + 1) (d := 2) (by omega) (by omega) (by omega) (by omega)) ?_
      rintro _ ρ2 rfl eρ
      refine ⟨rfl, ?_⟩
      simp only [List.cons_append, List.nil_append] at eρ
      subst eρ
      refine To.need (by simp only [X.den, X.dens, X.denss, D.int_i, D.boo_b, D.str_s, D.rows_l, List.getD_cons_zero, List.getD_cons_succ, List.cons_append, List.nil_append, List.append_nil, List.length_cons, List.length_nil, decide_eq_true_eq, decide_eq_false_iff_not, Bool.not_eq_true', Bool.not_eq_false', Bool.and_eq_true, Bool.and_eq_false_iff, Bool.true_eq_false, Bool.false_eq_true, Bool.not_true, Bool.not_false, eq_self, D.len_l]; omega) ?_
      refine To.ret (.inl ⟨rfl, m - 1, by omega, putz y k (upF l (p - 1) k), k + 1, ?_, by omega, by rw [putz_len]; exact hy, putz_one h1, fun i i0 i1 => ?_⟩)
      · simp (disch := omega) only [X.den, X.dens, X.denss, D.int_i, D.boo_b, D.str_s, D.rows_l, List.getD_cons_zero, List.getD_cons_succ, List.cons_append, List.nil_append, List.append_nil, List.length_cons, List.length_nil, wr64, ce_def, putz_def, nat_succ]
        rfl
      · rw [putz_ce h1 (by omega) (by omega) i0]
        split
        · rename_i e; rw [e]
        · exact hi i i0 (by omega)
    · obtain rfl : k = l.length := by omega
      exact To.ret (.inr ⟨rfl, y, by simp only [X.den, X.dens, X.denss, D.int_i, D.boo_b, D.str_s, D.rows_l, List.getD_cons_zero, List.getD_cons_succ, List.cons_append, List.nil_append, List.append_nil, List.length_cons, List.length_nil], hy, h1, fun i i0 i1 => hi i i0 i1⟩)
  rintro o ρ2 ⟨x, rfl, hx, x1, xi⟩ eρ
  simp only [List.cons_append, List.nil_append] at eρ
  subst eρ
  refine ⟨rfl, ?_⟩
  have sx : ∀ k : Nat, k ≤ l.length → sumf (ce x 0) k = sumf (upF l (p - 1)) k := fun k hk => sumf_congr fun i i0 i1 => xi i i0 (by omega)
  have hb2 := hb (p - 1)
  refine To.loopK (fun m o => ∃ k : Nat, o = [.i (sumf (ce x 0) k), .i k] ∧ k + m = l.length) (fun o => o = [.i (sumf (upF l (p - 1)) l.length)]) l.length (by omega) ?_ ?_ ?_
  · exact ⟨0, rfl, by omega⟩
  · rintro m o ρ2 ⟨k, rfl, hk⟩ eρ
    simp only [List.cons_append, List.nil_append] at eρ
    subst eρ
    refine To.ite (fun c => ?_) (fun c => ?_) <;> simp only [X.den, X.dens, X.denss, D.int_i, D.boo_b, D.str_s, D.rows_l, List.getD_cons_zero, List.getD_cons_succ, List.cons_append, List.nil_append, List.append_nil, List.length_cons, List.length_nil, decide_eq_true_eq, decide_eq_false_iff_not, Bool.not_eq_true', Bool.not_eq_false', Bool.and_eq_true, Bool.and_eq_false_iff, Bool.true_eq_false, Bool.false_eq_true, Bool.not_true, Bool.not_false, eq_self, D.len_l] at c
    · refine To.need (by simp only [X.den, X.dens, X.denss, D.int_i, D.boo_b, D.str_s, D.rows_l, List.getD_cons_zero, List.getD_cons_succ, List.cons_append, List.nil_append, List.append_nil, List.length_cons, List.length_nil, decide_eq_true_eq, decide_eq_false_iff_not, Bool.not_eq_true', Bool.not_eq_false', Bool.and_eq_true, Bool.and_eq_false_iff, Bool.true_eq_false, Bool.false_eq_true, Bool.not_true, Bool.not_false, eq_self, D.len_l]; omega) ?_
      have b2 := hb2 (k + 1) (by omega)
      rw [← sx (k + 1) (by omega)] at b2
      simp only [sumf] at b2
      refine To.ret (.inl ⟨rfl, m - 1, by omega, k + 1, ?_, by omega⟩)
      simp (disch := omega) only [X.den, X.dens, X.denss, D.int_i, D.boo_b, D.str_s, D.rows_l, List.getD_cons_zero, List.getD_cons_succ, List.cons_append, List.nil_append, List.append_nil, List.length_cons, List.length_nil, wr64, ce_def, sumf, nat_succ]
    · obtain rfl : k = l.length := by omega
      exact To.ret (.inr ⟨rfl, by simp only [X.den, X.dens, X.denss, D.int_i, D.boo_b, D.str_s, D.rows_l, List.getD_cons_zero, List.getD_cons_succ, List.cons_append, List.nil_append, List.append_nil, List.length_cons, List.length_nil]; rw [sx _ (by omega)]⟩)
  rintro o ρ2 rfl eρ
  simp only [List.cons_append, List.nil_append] at eρ
  subst eρ
  refine ⟨rfl, ?_⟩
  refine To.loopK (fun m o => ∃ (y : List (List D)) (k : Nat), o = [.l y, .i k] ∧ k + m = l.length ∧ y.length = l.length ∧ One y ∧ ∀ i : Int, 0 ≤ i → i < k → ce y 0 i = upF l p i) (fun o => ∃ y : List (List D), o = [.l y] ∧ y.length = l.length ∧ ∀ i : Int, 0 ≤ i → i < l.length → ce y 0 i = upF l p i) l.length (by omega) ?_ ?_ ?_
  · refine ⟨List.replicate l.length [.i 0], 0, ?_, by omega, List.length_replicate, rep_one, by intro i; omega⟩
    simp only [X.den, X.dens, X.denss, D.int_i, D.boo_b, D.str_s, D.rows_l, List.getD_cons_zero, List.getD_cons_succ, List.cons_append, List.nil_append, List.append_nil, List.length_cons, List.length_nil, D.len_l]
    rw [show (min (l.length : Int) 9223372036854775807).toNat = l.length by omega]
    rfl
  · rintro m o ρ2 ⟨y, k, rfl, hk, hy, h1, hi⟩ eρ
    simp only [List.cons_append, List.nil_append] at eρ
    subst eρ
    refine To.ite (fun c => ?_) (fun c => ?_) <;> simp only [X.den, X.dens, X.denss, D.int_i, D.boo_b, D.str_s, D.rows_l, List.getD_cons_zero, List.getD_cons_succ, List.cons_append, List.nil_append, List.append_nil, List.length_cons, List.length_nil, decide_eq_true_eq, decide_eq_false_iff_not, Bool.not_eq_true', Bool.not_eq_false', Bool.and_eq_true, Bool.and_eq_false_iff, Bool.true_eq_false, Bool.false_eq_true, Bool.not_true, Bool.not_false, eq_self, D.len_l] at c
    · refine To.need (by simp only [X.den, X.dens, X.denss, D.int_i, D.boo_b, D.str_s, D.rows_l, List.getD_cons_zero, List.getD_cons_succ, List.cons_append, List.nil_append, List.append_nil, List.length_cons, List.length_nil, decide_eq_true_eq, decide_eq_false_iff_not, Bool.not_eq_true', Bool.not_eq_false', Bool.and_eq_true, Bool.and_eq_false_iff, Bool.true_eq_false, Bool.false_eq_true, Bool.not_true, Bool.not_false, eq_self, D.len_l]; omega) ?_
      have ok := hv k (by omega) (by omega)
      have ok2 := ok
      simp only [okS] at ok2
      have cc := cost_cell ok
      have er := ediv_rng (p := p) (c := ce l 2 k) (a := 2000400) (by omega) (by omega) (by omega) (by omega)
      have e1 : -1000200 + r = p := by omega
      refine To.viaK (by (try simp (disch := omega) only [X.den, X.dens, X.denss, D.int_i, D.boo_b, D.str_s, D.rows_l, List.getD_cons_zero, List.getD_cons_succ, List.cons_append, List.nil_append, List.append_nil, List.length_cons, List.length_nil, decide_eq_true_eq, decide_eq_false_iff_not, Bool.not_eq_true', Bool.not_eq_false', Bool.and_eq_true, Bool.and_eq_false_iff, Bool.true_eq_false, Bool.false_eq_true, Bool.not_true, Bool.not_false, eq_self, D.len_l, wr64, not_true_eq_false, not_false_eq_true, e1, cc]); exact floor_to (n := p) (d := ce l 2 k) (by omega) (by omega) (by omega) (by omega)) ?_
      rintro _ ρ2 rfl eρ
      refine ⟨rfl, ?_⟩
      simp only [List.cons_append, List.nil_append] at eρ
      subst eρ
      refine To.viaK (by (try simp (disch := omega) only [X.den, X.dens, X.denss, D.int_i, D.boo_b, D.str_s, D.rows_l, List.getD_cons_zero, List.getD_cons_succ, List.cons_append, List.nil_append, List.append_nil, List.length_cons, List.length_nil, decide_eq_true_eq, decide_eq_false_iff_not, Bool.not_eq_true', Bool.not_eq_false', Bool.and_eq_true, Bool.and_eq_false_iff, Bool.true_eq_false, Bool.false_eq_true, Bool.not_true, Bool.not_false, eq_self, D.len_l, wr64, not_true_eq_false, not_false_eq_true, e1, cc]); exact floor_to (n := p / ce l 2 k + 1) (d := 2) (by omega) (by omega) (by omega) (by omega)) ?_
      rintro _ ρ2 rfl eρ
      refine ⟨rfl, ?_⟩
      simp only [List.cons_append, List.nil_append] at eρ
      subst eρ
      refine To.need (by simp only [X.den, X.dens, X.denss, D.int_i, D.boo_b, D.str_s, D.rows_l, List.getD_cons_zero, List.getD_cons_succ, List.cons_append, List.nil_append, List.append_nil, List.length_cons, List.length_nil, decide_eq_true_eq, decide_eq_false_iff_not, Bool.not_eq_true', Bool.not_eq_false', Bool.and_eq_true, Bool.and_eq_false_iff, Bool.true_eq_false, Bool.false_eq_true, Bool.not_true, Bool.not_false, eq_self, D.len_l]; omega) ?_
      refine To.ret (.inl ⟨rfl, m - 1, by omega, putz y k (upF l p k), k + 1, ?_, by omega, by rw [putz_len]; exact hy, putz_one h1, fun i i0 i1 => ?_⟩)
      · simp (disch := omega) only [X.den, X.dens, X.denss, D.int_i, D.boo_b, D.str_s, D.rows_l, List.getD_cons_zero, List.getD_cons_succ, List.cons_append, List.nil_append, List.append_nil, List.length_cons, List.length_nil, wr64, ce_def, putz_def, nat_succ]
        rfl
      · rw [putz_ce h1 (by omega) (by omega) i0]
        split
        · rename_i e; rw [e]
        · exact hi i i0 (by omega)
    · obtain rfl : k = l.length := by omega
      exact To.ret (.inr ⟨rfl, y, by simp only [X.den, X.dens, X.denss, D.int_i, D.boo_b, D.str_s, D.rows_l, List.getD_cons_zero, List.getD_cons_succ, List.cons_append, List.nil_append, List.append_nil, List.length_cons, List.length_nil], hy, fun i i0 i1 => hi i i0 i1⟩)
  rintro o ρ2 ⟨z, rfl, hz, zi⟩ eρ
  simp only [List.cons_append, List.nil_append] at eρ
  subst eρ
  refine ⟨rfl, ?_⟩
  have bn := hb (p - 1) l.length (by omega)
  have bp := hb p l.length (by omega)
  refine To.loopK (fun m o => ∃ (y : List (List D)) (left : Int) (k : Nat), o = [.l y, .i left, .i k] ∧ k + m = l.length ∧ y.length = l.length ∧ One y ∧ (0 ≤ left ∧ left ≤ 1000000) ∧ sumf (ce y 0) l.length + left = g ∧ (∀ i : Int, k ≤ i → i < l.length → ce y 0 i = upF l (p - 1) i)
      ∧ (∀ i : Int, 0 ≤ i → i < k → ce y 0 i = upF l (p - 1) i ∨ (ce y 0 i = upF l (p - 1) i + 1 ∧ upF l (p - 1) i < upF l p i)) ∧ (0 < left → ∀ i : Int, 0 ≤ i → i < k → upF l (p - 1) i < upF l p i → ce y 0 i = upF l (p - 1) i + 1)
      ∧ (∀ i j : Int, 0 ≤ i → i < k → 0 ≤ j → j < k → ce y 0 i = upF l (p - 1) i + 1 → ce y 0 j = upF l (p - 1) j → upF l (p - 1) j < upF l p j → i < j))
    (fun o => ∃ y : List (List D), o = [.l y] ∧ DivOk l g y) l.length (by omega) ?_ ?_ ?_
  · refine ⟨x, g - sumf (upF l (p - 1)) l.length, 0, ?_, by omega, hx, x1, by omega, by rw [sx _ (by omega)]; omega, fun i i0 i1 => xi i (by omega) i1, by intro i; omega, by intro _ i; omega, by intro i j; omega⟩
    simp (disch := omega) only [X.den, X.dens, X.denss, D.int_i, D.boo_b, D.str_s, D.rows_l, List.getD_cons_zero, List.getD_cons_succ, List.cons_append, List.nil_append, List.append_nil, List.length_cons, List.length_nil, wr64, ← hg]
    rfl
  · rintro m o ρ2 ⟨y, left, k, rfl, hk, hy, h1, l0, hs, ha, hbf, hl, ho⟩ eρ
    simp only [List.cons_append, List.nil_append] at eρ
    subst eρ
    refine To.ite (fun c => ?_) (fun c => ?_) <;> simp only [X.den, X.dens, X.denss, D.int_i, D.boo_b, D.str_s, D.rows_l, List.getD_cons_zero, List.getD_cons_succ, List.cons_append, List.nil_append, List.append_nil, List.length_cons, List.length_nil, decide_eq_true_eq, decide_eq_false_iff_not, Bool.not_eq_true', Bool.not_eq_false', Bool.and_eq_true, Bool.and_eq_false_iff, Bool.true_eq_false, Bool.false_eq_true, Bool.not_true, Bool.not_false, eq_self, D.len_l] at c
    · have ok := hv k (by omega) (by omega)
      have y1 := upF_rng (p := p - 1) ok
      have y2 := upF_rng (p := p) ok
      have y3 := ha k (by omega) (by omega)
      have zk := zi k (by omega) (by omega)
      simp only [okS] at ok
      refine To.joinK (fun o => ∃ w, (0 < left ∧ upF l (p - 1) k < upF l p k ∧ o = [.l (putz y k (upF l (p - 1) k + 1)), .i (left - 1), w]) ∨ (¬ (0 < left ∧ upF l (p - 1) k < upF l p k) ∧ o = [.l y, .i left, w])) ?_ ?_
      · refine To.need (by simp only [X.den, X.dens, X.denss, D.int_i, D.boo_b, D.str_s, D.rows_l, List.getD_cons_zero, List.getD_cons_succ, List.cons_append, List.nil_append, List.append_nil, List.length_cons, List.length_nil, decide_eq_true_eq, decide_eq_false_iff_not, Bool.not_eq_true', Bool.not_eq_false', Bool.and_eq_true, Bool.and_eq_false_iff, Bool.true_eq_false, Bool.false_eq_true, Bool.not_true, Bool.not_false, eq_self, D.len_l]; omega) ?_
        refine To.joinK (fun o => ∃ b, o = [.b b] ∧ (b = true ↔ (0 < left ∧ upF l (p - 1) k < upF l p k))) ?_ ?_
        · refine To.ite (fun c => ?_) (fun c => ?_) <;> simp only [X.den, X.dens, X.denss, D.int_i, D.boo_b, D.str_s, D.rows_l, List.getD_cons_zero, List.getD_cons_succ, List.cons_append, List.nil_append, List.append_nil, List.length_cons, List.length_nil, decide_eq_true_eq, decide_eq_false_iff_not, Bool.not_eq_true', Bool.not_eq_false', Bool.and_eq_true, Bool.and_eq_false_iff, Bool.true_eq_false, Bool.false_eq_true, Bool.not_true, Bool.not_false, eq_self] at c
          · refine To.need (by simp only [X.den, X.dens, X.denss, D.int_i, D.boo_b, D.str_s, D.rows_l, List.getD_cons_zero, List.getD_cons_succ, List.cons_append, List.nil_append, List.append_nil, List.length_cons, List.length_nil, decide_eq_true_eq, decide_eq_false_iff_not, Bool.not_eq_true', Bool.not_eq_false', Bool.and_eq_true, Bool.and_eq_false_iff, Bool.true_eq_false, Bool.false_eq_true, Bool.not_true, Bool.not_false, eq_self, D.len_l]; omega) (To.ret ⟨rfl, _, by simp only [X.den, X.dens, X.denss, D.int_i, D.boo_b, D.str_s, D.rows_l, List.getD_cons_zero, List.getD_cons_succ, List.cons_append, List.nil_append, List.append_nil, List.length_cons, List.length_nil]; rfl, ?_⟩)
            simp only [ce_def, zk, y3, decide_eq_true_eq, decide_eq_false_iff_not, Bool.not_eq_true', Bool.not_eq_false', Bool.and_eq_true, Bool.and_eq_false_iff, Bool.true_eq_false, Bool.false_eq_true, Bool.not_true, Bool.not_false, eq_self]
            omega
          · refine To.ret ⟨rfl, _, by simp only [X.den, X.dens, X.denss, D.int_i, D.boo_b, D.str_s, D.rows_l, List.getD_cons_zero, List.getD_cons_succ, List.cons_append, List.nil_append, List.append_nil, List.length_cons, List.length_nil]; rfl, ?_⟩
            simp only [decide_eq_true_eq, decide_eq_false_iff_not, Bool.not_eq_true', Bool.not_eq_false', Bool.and_eq_true, Bool.and_eq_false_iff, Bool.true_eq_false, Bool.false_eq_true, Bool.not_true, Bool.not_false, eq_self, false_iff]
            omega
        · rintro o ρ2 ⟨b, rfl, ht⟩ eρ
          simp only [List.cons_append, List.nil_append] at eρ
          subst eρ
          refine To.ite (fun c3 => ?_) (fun c3 => ?_) <;> simp only [X.den, X.dens, X.denss, D.int_i, D.boo_b, D.str_s, D.rows_l, List.getD_cons_zero, List.getD_cons_succ, List.cons_append, List.nil_append, List.append_nil, List.length_cons, List.length_nil] at c3
          · refine To.need (by simp only [X.den, X.dens, X.denss, D.int_i, D.boo_b, D.str_s, D.rows_l, List.getD_cons_zero, List.getD_cons_succ, List.cons_append, List.nil_append, List.append_nil, List.length_cons, List.length_nil, decide_eq_true_eq, decide_eq_false_iff_not, Bool.not_eq_true', Bool.not_eq_false', Bool.and_eq_true, Bool.and_eq_false_iff, Bool.true_eq_false, Bool.false_eq_true, Bool.not_true, Bool.not_false, eq_self, D.len_l]; omega) (To.ret ⟨rfl, D.b b, .inl ⟨(ht.1 c3).1, (ht.1 c3).2, ?_⟩⟩)
            have := ht.1 c3
            simp (disch := omega) only [X.den, X.dens, X.denss, D.int_i, D.boo_b, D.str_s, D.rows_l, List.getD_cons_zero, List.getD_cons_succ, List.cons_append, List.nil_append, List.append_nil, List.length_cons, List.length_nil, wr64, ce_def, y3, putz_def]
          · refine To.ret ⟨rfl, D.b b, .inr ⟨fun q => (by rw [ht.2 q] at c3; cases c3), ?_⟩⟩
            simp only [X.den, X.dens, X.denss, D.int_i, D.boo_b, D.str_s, D.rows_l, List.getD_cons_zero, List.getD_cons_succ, List.cons_append, List.nil_append, List.append_nil, List.length_cons, List.length_nil]
      · rintro o ρ2 ⟨w, (⟨q1, q2, rfl⟩ | ⟨q1, rfl⟩)⟩ eρ
        · simp only [List.cons_append, List.nil_append] at eρ
          subst eρ
          have pc : ∀ i : Int, 0 ≤ i → ce (putz y k (upF l (p - 1) k + 1)) 0 i = if i = k then upF l (p - 1) k + 1 else ce y 0 i := fun i i0 => putz_ce h1 (by omega) (by omega) i0
          refine To.ret (.inl ⟨rfl, m - 1, by omega, putz y k (upF l (p - 1) k + 1), left - 1, k + 1, ?_, by omega, by rw [putz_len]; exact hy, putz_one h1, by omega, ?_, fun i i0 i1 => ?_, fun i i0 i1 => ?_, fun lf i i0 i1 i2 => ?_, fun i j i0 i1 j0 j1 e1 e2 e3 => ?_⟩)
          · simp (disch := omega) only [X.den, X.dens, X.denss, D.int_i, D.boo_b, D.str_s, D.rows_l, List.getD_cons_zero, List.getD_cons_succ, List.cons_append, List.nil_append, List.append_nil, List.length_cons, List.length_nil, wr64, nat_succ]
          · have := sumf_one (n := l.length) (f := ce y 0) (g := ce (putz y k (upF l (p - 1) k + 1)) 0) (k := k) (d := 1) (by omega) (by omega) (by rw [pc k (by omega), if_pos rfl, y3]) fun i i0 i1 ne => by rw [pc i i0, if_neg ne]
            omega
          · rw [pc i (by omega), if_neg (by omega)]; exact ha i (by omega) i1
          · rw [pc i i0]
            split
            · rename_i e; subst e; exact .inr ⟨rfl, q2⟩
            · exact hbf i i0 (by omega)
          · rw [pc i i0]
            split
            · rename_i e; subst e; rfl
            · exact hl q1 i i0 (by omega) i2
          · rw [pc i i0] at e1
            rw [pc j j0] at e2
            split at e2
            · rename_i e; subst e; omega
            · have := hl q1 j j0 (by omega) e3
              omega
        · simp only [List.cons_append, List.nil_append] at eρ
          subst eρ
          refine To.ret (.inl ⟨rfl, m - 1, by omega, y, left, k + 1, ?_, by omega, hy, h1, l0, hs, fun i i0 i1 => ha i (by omega) i1, fun i i0 i1 => ?_, fun lf i i0 i1 i2 => ?_, fun i j i0 i1 j0 j1 e1 e2 e3 => ?_⟩)
          · simp (disch := omega) only [X.den, X.dens, X.denss, D.int_i, D.boo_b, D.str_s, D.rows_l, List.getD_cons_zero, List.getD_cons_succ, List.cons_append, List.nil_append, List.append_nil, List.length_cons, List.length_nil, wr64, nat_succ]
          · by_cases e : i = k
            · subst e; exact .inl y3
            · exact hbf i i0 (by omega)
          · by_cases e : i = k
            · subst e; exact absurd ⟨lf, i2⟩ q1
            · exact hl lf i i0 (by omega) i2
          · by_cases e : i = k
            · subst e; omega
            · by_cases e' : j = k
              · omega
              · exact ho i j i0 (by omega) j0 (by omega) e1 e2 e3
    · obtain rfl : k = l.length := by omega
      refine To.ret (.inr ⟨rfl, y, by simp only [X.den, X.dens, X.denss, D.int_i, D.boo_b, D.str_s, D.rows_l, List.getD_cons_zero, List.getD_cons_succ, List.cons_append, List.nil_append, List.append_nil, List.length_cons, List.length_nil], h1, hy, ?_⟩)
      have hc : ∀ i : Int, 0 ≤ i → i < l.length → 1 ≤ ce l 2 i ∧ ce l 0 i ≤ ce l 1 i := fun i a b => by have := hv i a b; simp only [okS] at this; omega
      have fin := up_lex (n := l.length) (lo := ce l 0) (hi := ce l 1) (c := ce l 2) (x := ce y 0) (p := p) hc hbf ho
      refine ⟨fin.2, ?_, fin.1⟩
      by_cases lf : 0 < left
      · have := sumf_le (n := l.length) (f := upF l p) (g := ce y 0) fun i i0 i1 => by
          have st := up_step (p := p) (hc i i0 i1).1 (hc i i0 i1).2
          have e1 : up (ce l 0 i) (ce l 1 i) (ce l 2 i) p = upF l p i := rfl
          have e2 : up (ce l 0 i) (ce l 1 i) (ce l 2 i) (p - 1) = upF l (p - 1) i := rfl
          rw [e1, e2] at st
          have a := hl lf i i0 i1
          have b := hbf i i0 i1
          omega
        omega
      · omega
  · rintro o ρ2 ⟨y, rfl, hd⟩ eρ
    simp only [List.cons_append, List.nil_append] at eρ
    subst eρ
    refine ⟨rfl, To.ret ⟨y, ?_, hd⟩⟩
    simp (disch := omega) only [X.den, X.dens, X.denss, D.int_i, D.boo_b, D.str_s, D.rows_l, List.getD_cons_zero, List.getD_cons_succ, List.cons_append, List.nil_append, List.append_nil, List.length_cons, List.length_nil, wr64, ← hg]
theorem shDivide_ok : ConOk Try.prog shDivide_K (shDivide_T.run dvM 30) := con_run follows (one_con (aFloor_ok.to _) (one_con (shReach_ok.to _) no_cons)) shDivide_t rfl 30
end Go.Proofs.Ytlhnhidoljfnnaa
