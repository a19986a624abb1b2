/- Fixes that are merged, in full: the mean, the bound, what boxes have in common, the hull. -/
import Derived.Test.YtlhnhidoljfnnaaFuX
set_option linter.unusedVariables false
set_option linter.unusedSimpArgs false
namespace Go.Proofs.Ytlhnhidoljfnnaa
open Go.RowKit Fx Sh
def updv (n d : Int) : Int := if n % d = 0 then n / d else n / d + 1
theorem half_full {n d : Int} (n0 : -1000000000000000000 ≤ n) (n1 : n ≤ 1000000000000000000) (d0 : 1 ≤ d) (d1 : d ≤ 1000000000) : ∃ l, gHalf_T.run noM 0 [.i n, .i d] = some l ∧ l = [.i (hdv n d), .i 0] := by
  obtain ⟨q1, q2⟩ := tdiv_down (n := n) (show 0 < d by omega)
  have e := Int.mul_ediv_add_emod n d
  have r0 := Int.emod_nonneg n (show d ≠ 0 by omega)
  have r1 := Int.emod_lt_of_pos n (show 0 < d by omega)
  have hv := hdv_of e.symm r0 r1
  obtain ⟨a1, a2⟩ := tdiv_abs d0 n0 n1
  have t1 := Int.lt_tmod_of_pos n (show 0 < d by omega)
  have t2 := Int.tmod_lt_of_pos n (show 0 < d by omega)
  refine run_to ?_
  unfold gHalf_T
  by_cases hneg : n.tmod d < 0
  · rw [if_pos hneg] at q1 q2
    (repeat' (first
        
        | (refine To.subK (fun K hK => ?_))
        | (refine To.need (by simp (disch := omega) only [X.den, X.dens, X.denss, D.int_i, D.boo_b, D.str_s, D.rows_l, List.getD_cons_zero, List.getD_cons_succ, List.cons_append, List.nil_append, List.append_nil, List.length_cons, List.length_nil, decide_eq_true_eq, decide_eq_false_iff_not, Bool.not_eq_true', Bool.not_eq_false', Bool.and_eq_true, Bool.and_eq_false_iff, Bool.true_eq_false, Bool.false_eq_true, Bool.not_true, Bool.not_false, eq_self, D.len_l, wr64, not_true_eq_false, not_false_eq_true] <;> omega) ?_)
        | (refine To.ite (fun c => ?_) (fun c => ?_) <;> ((try simp (disch := omega) only [X.den, X.dens, X.denss, D.int_i, D.boo_b, D.str_s, D.rows_l, List.getD_cons_zero, List.getD_cons_succ, List.cons_append, List.nil_append, List.append_nil, List.length_cons, List.length_nil, decide_eq_true_eq, decide_eq_false_iff_not, Bool.not_eq_true', Bool.not_eq_false', Bool.and_eq_true, Bool.and_eq_false_iff, Bool.true_eq_false, Bool.false_eq_true, Bool.not_true, Bool.not_false, eq_self, D.len_l, wr64, not_true_eq_false, not_false_eq_true] at c) <;> (try (exfalso; omega))))
        | (refine To.ret ⟨rfl, ?_⟩; (try simp (disch := omega) only [X.den, X.dens, X.denss, D.int_i, D.boo_b, D.str_s, D.rows_l, List.getD_cons_zero, List.getD_cons_succ, List.cons_append, List.nil_append, List.append_nil, List.length_cons, List.length_nil, decide_eq_true_eq, decide_eq_false_iff_not, Bool.not_eq_true', Bool.not_eq_false', Bool.and_eq_true, Bool.and_eq_false_iff, Bool.true_eq_false, Bool.false_eq_true, Bool.not_true, Bool.not_false, eq_self, D.len_l, wr64, not_true_eq_false, not_false_eq_true]); refine hK _ _ (by simp only [List.cons_append, List.nil_append]; first | done | rfl) ?_; clear hK; clear K)))
    all_goals (refine To.ret ?_; simp only [X.den, X.dens, X.denss, D.int_i, D.boo_b, D.str_s, D.rows_l, List.getD_cons_zero, List.getD_cons_succ, List.cons_append, List.nil_append, List.append_nil, List.length_cons, List.length_nil]; simp only [List.cons.injEq, D.i.injEq, and_true]; rw [hv]; split <;> omega)
  · rw [if_neg hneg] at q1 q2
    (repeat' (first
        
        | (refine To.subK (fun K hK => ?_))
        | (refine To.need (by simp (disch := omega) only [X.den, X.dens, X.denss, D.int_i, D.boo_b, D.str_s, D.rows_l, List.getD_cons_zero, List.getD_cons_succ, List.cons_append, List.nil_append, List.append_nil, List.length_cons, List.length_nil, decide_eq_true_eq, decide_eq_false_iff_not, Bool.not_eq_true', Bool.not_eq_false', Bool.and_eq_true, Bool.and_eq_false_iff, Bool.true_eq_false, Bool.false_eq_true, Bool.not_true, Bool.not_false, eq_self, D.len_l, wr64, not_true_eq_false, not_false_eq_true] <;> omega) ?_)
        | (refine To.ite (fun c => ?_) (fun c => ?_) <;> ((try simp (disch := omega) only [X.den, X.dens, X.denss, D.int_i, D.boo_b, D.str_s, D.rows_l, List.getD_cons_zero, List.getD_cons_succ, List.cons_append, List.nil_append, List.append_nil, List.length_cons, List.length_nil, decide_eq_true_eq, decide_eq_false_iff_not, Bool.not_eq_true', Bool.not_eq_false', Bool.and_eq_true, Bool.and_eq_false_iff, Bool.true_eq_false, Bool.false_eq_true, Bool.not_true, Bool.not_false, eq_self, D.len_l, wr64, not_true_eq_false, not_false_eq_true] at c) <;> (try (exfalso; omega))))
        | (refine To.ret ⟨rfl, ?_⟩; (try simp (disch := omega) only [X.den, X.dens, X.denss, D.int_i, D.boo_b, D.str_s, D.rows_l, List.getD_cons_zero, List.getD_cons_succ, List.cons_append, List.nil_append, List.append_nil, List.length_cons, List.length_nil, decide_eq_true_eq, decide_eq_false_iff_not, Bool.not_eq_true', Bool.not_eq_false', Bool.and_eq_true, Bool.and_eq_false_iff, Bool.true_eq_false, Bool.false_eq_true, Bool.not_true, Bool.not_false, eq_self, D.len_l, wr64, not_true_eq_false, not_false_eq_true]); refine hK _ _ (by simp only [List.cons_append, List.nil_append]; first | done | rfl) ?_; clear hK; clear K)))
    all_goals (refine To.ret ?_; simp only [X.den, X.dens, X.denss, D.int_i, D.boo_b, D.str_s, D.rows_l, List.getD_cons_zero, List.getD_cons_succ, List.cons_append, List.nil_append, List.append_nil, List.length_cons, List.length_nil]; simp only [List.cons.injEq, D.i.injEq, and_true]; rw [hv]; split <;> omega)
theorem gHalf_ok : ConOk Try.prog gHalf_K (gHalf_T.run noM 0) := con_run follows no_cons gHalf_t rfl 0
theorem up_full {n d : Int} (n0 : 0 ≤ n) (n1 : n ≤ 1000000000000000000) (d0 : 1 ≤ d) (d1 : d ≤ 1000000000) : ∃ l, gUp_T.run noM 0 [.i n, .i d] = some l ∧ l = [.i (updv n d), .i 0] := by
  obtain ⟨q1, q2⟩ := tdiv_down (n := n) (show 0 < d by omega)
  have r0 := Int.emod_nonneg n (show d ≠ 0 by omega)
  have r1 := Int.emod_lt_of_pos n (show 0 < d by omega)
  obtain ⟨a1, a2⟩ := tdiv_abs d0 (show -1000000000000000000 ≤ n by omega) n1
  have t1 := Int.lt_tmod_of_pos n (show 0 < d by omega)
  have t2 := Int.tmod_lt_of_pos n (show 0 < d by omega)
  have t3 := Int.tmod_nonneg d n0
  have hneg : ¬ n.tmod d < 0 := by omega
  rw [if_neg hneg] at q1 q2
  refine run_to ?_
  unfold gUp_T
  (repeat' (first
      
      | (refine To.subK (fun K hK => ?_))
      | (refine To.need (by simp (disch := omega) only [X.den, X.dens, X.denss, D.int_i, D.boo_b, D.str_s, D.rows_l, List.getD_cons_zero, List.getD_cons_succ, List.cons_append, List.nil_append, List.append_nil, List.length_cons, List.length_nil, decide_eq_true_eq, decide_eq_false_iff_not, Bool.not_eq_true', Bool.not_eq_false', Bool.and_eq_true, Bool.and_eq_false_iff, Bool.true_eq_false, Bool.false_eq_true, Bool.not_true, Bool.not_false, eq_self, D.len_l, wr64, not_true_eq_false, not_false_eq_true] <;> omega) ?_)
      | (refine To.ite (fun c => ?_) (fun c => ?_) <;> ((try simp (disch := omega) only [X.den, X.dens, X.denss, D.int_i, D.boo_b, D.str_s, D.rows_l, List.getD_cons_zero, List.getD_cons_succ, List.cons_append, List.nil_append, List.append_nil, List.length_cons, List.length_nil, decide_eq_true_eq, decide_eq_false_iff_not, Bool.not_eq_true', Bool.not_eq_false', Bool.and_eq_true, Bool.and_eq_false_iff, Bool.true_eq_false, Bool.false_eq_true, Bool.not_true, Bool.not_false, eq_self, D.len_l, wr64, not_true_eq_false, not_false_eq_true] at c) <;> (try (exfalso; omega))))
      | (refine To.ret ⟨rfl, ?_⟩; (try simp (disch := omega) only [X.den, X.dens, X.denss, D.int_i, D.boo_b, D.str_s, D.rows_l, List.getD_cons_zero, List.getD_cons_succ, List.cons_append, List.nil_append, List.append_nil, List.length_cons, List.length_nil, decide_eq_true_eq, decide_eq_false_iff_not, Bool.not_eq_true', Bool.not_eq_false', Bool.and_eq_true, Bool.and_eq_false_iff, Bool.true_eq_false, Bool.false_eq_true, Bool.not_true, Bool.not_false, eq_self, D.len_l, wr64, not_true_eq_false, not_false_eq_true]); refine hK _ _ (by simp only [List.cons_append, List.nil_append]; first | done | rfl) ?_; clear hK; clear K)))
  all_goals (refine To.ret ?_; simp only [X.den, X.dens, X.denss, D.int_i, D.boo_b, D.str_s, D.rows_l, List.getD_cons_zero, List.getD_cons_succ, List.cons_append, List.nil_append, List.append_nil, List.length_cons, List.length_nil]; simp only [List.cons.injEq, D.i.injEq, and_true, updv]; split <;> omega)
theorem gUp_ok : ConOk Try.prog gUp_K (gUp_T.run noM 0) := con_run follows no_cons gUp_t rfl 0
theorem updv_one {g w : Int} (hw : 1 ≤ w) (hg : w ≤ g) : 1 ≤ updv (1000 * w) g ∧ updv (1000 * w) g ≤ 1000 := by
  have e := Int.mul_ediv_add_emod (1000 * w) g
  have r0 := Int.emod_nonneg (1000 * w) (show g ≠ 0 by omega)
  have r1 := Int.emod_lt_of_pos (1000 * w) (show 0 < g by omega)
  unfold updv
  generalize 1000 * w / g = q at *
  generalize 1000 * w % g = r at *
  have a0 : 0 ≤ q := by
    apply Int.not_lt.1
    intro h
    have := Int.mul_le_mul_of_nonneg_left (show q ≤ -1 by omega) (show 0 ≤ g by omega)
    omega
  have a1 : q ≤ 1000 := by
    apply Int.not_lt.1
    intro h
    have := Int.mul_le_mul_of_nonneg_left (show 1001 ≤ q by omega) (show 0 ≤ g by omega)
    omega
  have a2 : q = 0 → g * q = 0 := by rintro rfl; exact Int.mul_zero g
  have a3 : q = 1000 → g * q = 1000 * g := by rintro rfl; exact Int.mul_comm g 1000
  split <;> omega
theorem hdv_within {n d lo hi : Int} (hd : 1 ≤ d) (h0 : lo * d ≤ n) (h1 : n ≤ hi * d) : lo ≤ hdv n d ∧ hdv n d ≤ hi := by
  unfold hdv
  constructor
  · rw [Int.le_ediv_iff_mul_le (by omega)]
    have : lo * (2 * d) = 2 * (lo * d) := by rw [Int.mul_left_comm]
    omega
  · have : (2 * n + d) / (2 * d) < hi + 1 := by
      rw [Int.ediv_lt_iff_lt_mul (by omega)]
      have : (hi + 1) * (2 * d) = 2 * (hi * d) + 2 * d := by rw [Int.add_mul, Int.mul_left_comm]; omega
      omega
    omega
theorem box_full {a b : Int} {c d : D} (a0 : -100000000 ≤ a ∧ a ≤ 100000000) (b0 : -100000000 ≤ b ∧ b ≤ 100000000) (c0 : -100000000 ≤ c.int ∧ c.int ≤ 100000000) (d0 : -100000000 ≤ d.int ∧ d.int ≤ 100000000) :
    ∃ l, gBox_T.run noM 0 [.i a, .i b, c, d] = some l ∧ l = [.i (max (max (a - c.int) (c.int - a)) (max (b - d.int) (d.int - b))), .i 0] := by
  obtain ⟨x, hx⟩ : ∃ x, c.int = x := ⟨_, rfl⟩
  obtain ⟨y, hy⟩ : ∃ y, d.int = y := ⟨_, rfl⟩
  rw [hx] at c0 ⊢
  rw [hy] at d0 ⊢
  refine run_to ?_
  unfold gBox_T
  (repeat' (first
      
      | (refine To.subK (fun K hK => ?_))
      | (refine To.need (by simp (disch := omega) only [X.den, X.dens, X.denss, D.int_i, D.boo_b, D.str_s, D.rows_l, List.getD_cons_zero, List.getD_cons_succ, List.cons_append, List.nil_append, List.append_nil, List.length_cons, List.length_nil, decide_eq_true_eq, decide_eq_false_iff_not, Bool.not_eq_true', Bool.not_eq_false', Bool.and_eq_true, Bool.and_eq_false_iff, Bool.true_eq_false, Bool.false_eq_true, Bool.not_true, Bool.not_false, eq_self, D.len_l, wr64, not_true_eq_false, not_false_eq_true, hx, hy] <;> omega) ?_)
      | (refine To.ite (fun c => ?_) (fun c => ?_) <;> ((try simp (disch := omega) only [X.den, X.dens, X.denss, D.int_i, D.boo_b, D.str_s, D.rows_l, List.getD_cons_zero, List.getD_cons_succ, List.cons_append, List.nil_append, List.append_nil, List.length_cons, List.length_nil, decide_eq_true_eq, decide_eq_false_iff_not, Bool.not_eq_true', Bool.not_eq_false', Bool.and_eq_true, Bool.and_eq_false_iff, Bool.true_eq_false, Bool.false_eq_true, Bool.not_true, Bool.not_false, eq_self, D.len_l, wr64, not_true_eq_false, not_false_eq_true, hx, hy] at c) <;> (try (exfalso; omega))))
      | (refine To.ret ⟨rfl, ?_⟩; (try simp (disch := omega) only [X.den, X.dens, X.denss, D.int_i, D.boo_b, D.str_s, D.rows_l, List.getD_cons_zero, List.getD_cons_succ, List.cons_append, List.nil_append, List.append_nil, List.length_cons, List.length_nil, decide_eq_true_eq, decide_eq_false_iff_not, Bool.not_eq_true', Bool.not_eq_false', Bool.and_eq_true, Bool.and_eq_false_iff, Bool.true_eq_false, Bool.false_eq_true, Bool.not_true, Bool.not_false, eq_self, D.len_l, wr64, not_true_eq_false, not_false_eq_true, hx, hy]); refine hK _ _ (by simp only [List.cons_append, List.nil_append]; first | done | rfl) ?_; clear hK; clear K)))
  all_goals (refine To.ret ?_; simp only [X.den, X.dens, X.denss, D.int_i, D.boo_b, D.str_s, D.rows_l, List.getD_cons_zero, List.getD_cons_succ, List.cons_append, List.nil_append, List.append_nil, List.length_cons, List.length_nil])
theorem gBox_ok : ConOk Try.prog gBox_K (gBox_T.run noM 0) := con_run follows no_cons gBox_t rfl 0
/-- weights, the greatest of them, what each counts, the sums -/
def wF (l : List (List D)) (i : Int) : Int := wtx (cf l 3 i)
def gF (l : List (List D)) : Nat → Int
  | 0 => 0
  | k + 1 => max (gF l k) (wF l k)
def uF (l : List (List D)) (i : Int) : Int := updv (1000 * wF l i) (gF l l.length)
def vF (l : List (List D)) (c : Nat) (i : Int) : Int := uF l i * cf l c i
def pF (l : List (List D)) (c : Nat) : Int := hdv (sumf (vF l c) l.length) (sumf (uF l) l.length)
def bxF (l : List (List D)) (p q i : Int) : Int := max (max (p - cf l 1 i) (cf l 1 i - p)) (max (q - cf l 2 i) (cf l 2 i - q)) + cf l 3 i
def bF (l : List (List D)) (p q : Int) : Nat → Int
  | 0 => 0
  | k + 1 => max (bF l p q k) (bxF l p q k)
theorem wF_rng {l : List (List D)} {i : Int} (h : okF l i) : 1 ≤ wF l i ∧ wF l i ≤ 1000000000 := by
  unfold okF at h
  have := wt_rng h.2.2.1 h.2.2.2
  unfold wF wtx
  rw [if_pos h.2.2]
  exact this
theorem gF_spec {l : List (List D)} (hv : ∀ i : Int, 0 ≤ i → i < l.length → okF l i) (k : Nat) (hk : k ≤ l.length) : (0 ≤ gF l k ∧ gF l k ≤ 1000000000) ∧ (∀ i : Int, 0 ≤ i → i < k → wF l i ≤ gF l k) := by
  induction k with
  | zero => exact ⟨by simp [gF], by intro i; omega⟩
  | succ k ih =>
    obtain ⟨h1, h2⟩ := ih (by omega)
    have := wF_rng (hv k (by omega) (by omega))
    simp only [gF]
    refine ⟨by omega, fun i i0 i1 => ?_⟩
    by_cases e : i = k
    · subst e; omega
    · have := h2 i i0 (by omega); omega
theorem uF_rng {l : List (List D)} (hv : ∀ i : Int, 0 ≤ i → i < l.length → okF l i) {i : Int} (i0 : 0 ≤ i) (i1 : i < l.length) : 1 ≤ uF l i ∧ uF l i ≤ 1000 :=
  updv_one (wF_rng (hv i i0 i1)).1 ((gF_spec hv l.length (Nat.le_refl _)).2 i i0 i1)
theorem vF_rng {l : List (List D)} {c : Nat} {i : Int} (hu : 1 ≤ uF l i ∧ uF l i ≤ 1000) (hc : -100000000 ≤ cf l c i ∧ cf l c i ≤ 100000000) : -100000000000 ≤ vF l c i ∧ vF l c i ≤ 100000000000 := by
  unfold vF
  have a := Int.mul_le_mul_of_nonneg_left hc.1 (show 0 ≤ uF l i by omega)
  have b := Int.mul_le_mul_of_nonneg_left hc.2 (show 0 ≤ uF l i by omega)
  omega
theorem sums_rng {l : List (List D)} (hv : ∀ i : Int, 0 ≤ i → i < l.length → okF l i) (k : Nat) (hk : k ≤ l.length) : (1 * (k : Int) ≤ sumf (uF l) k ∧ sumf (uF l) k ≤ 1000 * k) ∧ (-100000000000 * (k : Int) ≤ sumf (vF l 1) k ∧ sumf (vF l 1) k ≤ 100000000000 * k) ∧ (-100000000000 * (k : Int) ≤ sumf (vF l 2) k ∧ sumf (vF l 2) k ≤ 100000000000 * k) :=
  ⟨sumf_bound fun i a b => uF_rng hv a (by omega), sumf_bound fun i a b => vF_rng (uF_rng hv a (by omega)) (hv i a (by omega)).1, sumf_bound fun i a b => vF_rng (uF_rng hv a (by omega)) (hv i a (by omega)).2.1⟩
/-- the mean is among the places -/
theorem pF_rng {l : List (List D)} {c : Nat} {lo hi : Int} (h0 : 1 ≤ l.length) (hu : ∀ i : Int, 0 ≤ i → i < l.length → 1 ≤ uF l i ∧ uF l i ≤ 1000) (hc : ∀ i : Int, 0 ≤ i → i < l.length → lo ≤ cf l c i ∧ cf l c i ≤ hi) : lo ≤ pF l c ∧ pF l c ≤ hi := by
  have s := sumf_bound (n := l.length) (f := uF l) (a := 1) (b := 1000) hu
  have a := sumf_le (n := l.length) (f := fun i => lo * (uF l i - 0)) (g := vF l c) fun i i0 i1 => by
    have := Int.mul_le_mul_of_nonneg_left (hc i i0 i1).1 (show 0 ≤ uF l i by have := hu i i0 i1; omega)
    simp only [vF, Int.sub_zero]
    rw [Int.mul_comm]
    exact this
  have b := sumf_le (n := l.length) (f := vF l c) (g := fun i => hi * (uF l i - 0)) fun i i0 i1 => by
    have := Int.mul_le_mul_of_nonneg_left (hc i i0 i1).2 (show 0 ≤ uF l i by have := hu i i0 i1; omega)
    simp only [vF, Int.sub_zero]
    rw [Int.mul_comm hi]
    exact this
  have z : sumf (fun _ => (0 : Int)) l.length = 0 := by
    have := sumf_bound (n := l.length) (f := fun _ => (0 : Int)) (a := 0) (b := 0) fun _ _ _ => ⟨Int.le_refl _, Int.le_refl _⟩
    omega
  rw [sumf_sub (f := fun _ => (0 : Int)) (g := uF l) (q := lo) fun i _ _ => rfl, z] at a
  rw [sumf_sub (f := fun _ => (0 : Int)) (g := uF l) (q := hi) fun i _ _ => rfl, z] at b
  exact hdv_within (by omega) (by simpa using a) (by simpa using b)
def mnM : Models := Models.on gHalf_K.f (gHalf_T.run noM 0) (Models.on gUp_K.f (gUp_T.run noM 0) (Models.on gWei_K.f (gWei_T.run noM 0) noM))
theorem mean_full {l : List (List D)} (h : fck l = 0) : ∃ o, gMean_T.run mnM 30 [.l l] = some o ∧ o = [.i (pF l 1), .i (pF l 2)] := by
  obtain ⟨⟨h0, h1⟩, hv⟩ := fck_zero h
  refine run_to ?_
  unfold gMean_T
  refine To.loopK (fun m o => ∃ k : Nat, o = [.i (gF l k), .i k] ∧ k + m = l.length) (fun o => o = [.i (gF l l.length)]) l.length (by omega) ?_ ?_ ?_
  · exact ⟨0, rfl, by omega⟩
  · rintro m o ρ2 ⟨k, rfl, hk⟩ eρ
    simp only [List.cons_append, List.nil_append] at eρ
    subst eρ
    refine To.ite (fun c => ?_) (fun c => ?_) <;> simp only [X.den, X.dens, X.denss, D.int_i, D.boo_b, D.str_s, D.rows_l, List.getD_cons_zero, List.getD_cons_succ, List.cons_append, List.nil_append, List.append_nil, List.length_cons, List.length_nil, decide_eq_true_eq, decide_eq_false_iff_not, Bool.not_eq_true', Bool.not_eq_false', Bool.and_eq_true, Bool.and_eq_false_iff, Bool.true_eq_false, Bool.false_eq_true, Bool.not_true, Bool.not_false, eq_self, D.len_l] at c
    · refine To.need (by simp only [X.den, X.dens, X.denss, D.int_i, D.boo_b, D.str_s, D.rows_l, List.getD_cons_zero, List.getD_cons_succ, List.cons_append, List.nil_append, List.append_nil, List.length_cons, List.length_nil, decide_eq_true_eq, decide_eq_false_iff_not, Bool.not_eq_true', Bool.not_eq_false', Bool.and_eq_true, Bool.and_eq_false_iff, Bool.true_eq_false, Bool.false_eq_true, Bool.not_true, Bool.not_false, eq_self, D.len_l]; omega) ?_
      refine To.viaK (by (try simp (disch := omega) only [X.den, X.dens, X.denss, D.int_i, D.boo_b, D.str_s, D.rows_l, List.getD_cons_zero, List.getD_cons_succ, List.cons_append, List.nil_append, List.append_nil, List.length_cons, List.length_nil, decide_eq_true_eq, decide_eq_false_iff_not, Bool.not_eq_true', Bool.not_eq_false', Bool.and_eq_true, Bool.and_eq_false_iff, Bool.true_eq_false, Bool.false_eq_true, Bool.not_true, Bool.not_false, eq_self, D.len_l, wr64, not_true_eq_false, not_false_eq_true]); exact weight_gen (d := (D.l l).cell k 3)) ?_
      rintro _ ρ2 rfl eρ
      refine ⟨rfl, ?_⟩
      simp only [List.cons_append, List.nil_append] at eρ
      subst eρ
      refine To.ret (.inl ⟨rfl, m - 1, by omega, k + 1, ?_, by omega⟩)
      simp (disch := omega) only [X.den, X.dens, X.denss, D.int_i, D.boo_b, D.str_s, D.rows_l, List.getD_cons_zero, List.getD_cons_succ, List.cons_append, List.nil_append, List.append_nil, List.length_cons, List.length_nil, wr64, cf_def, nat_suc, gF, wF]
    · obtain rfl : k = l.length := by omega
      exact To.ret (.inr ⟨rfl, by simp only [X.den, X.dens, X.denss, D.int_i, D.boo_b, D.str_s, D.rows_l, List.getD_cons_zero, List.getD_cons_succ, List.cons_append, List.nil_append, List.append_nil, List.length_cons, List.length_nil]⟩)
  rintro o ρ2 rfl eρ
  simp only [List.cons_append, List.nil_append] at eρ
  subst eρ
  refine ⟨rfl, ?_⟩
  refine To.loopK (fun m o => ∃ k : Nat, o = [.i (sumf (uF l) k), .i (sumf (vF l 1) k), .i (sumf (vF l 2) k), .i k] ∧ k + m = l.length) (fun o => o = [.i (sumf (uF l) l.length), .i (sumf (vF l 1) l.length), .i (sumf (vF l 2) l.length)]) l.length (by omega) ?_ ?_ ?_
  · exact ⟨0, rfl, by omega⟩
  · rintro m o ρ2 ⟨k, rfl, hk⟩ eρ
    simp only [List.cons_append, List.nil_append] at eρ
    subst eρ
    refine To.ite (fun c => ?_) (fun c => ?_) <;> simp only [X.den, X.dens, X.denss, D.int_i, D.boo_b, D.str_s, D.rows_l, List.getD_cons_zero, List.getD_cons_succ, List.cons_append, List.nil_append, List.append_nil, List.length_cons, List.length_nil, decide_eq_true_eq, decide_eq_false_iff_not, Bool.not_eq_true', Bool.not_eq_false', Bool.and_eq_true, Bool.and_eq_false_iff, Bool.true_eq_false, Bool.false_eq_true, Bool.not_true, Bool.not_false, eq_self, D.len_l] at c
    · refine To.need (by simp only [X.den, X.dens, X.denss, D.int_i, D.boo_b, D.str_s, D.rows_l, List.getD_cons_zero, List.getD_cons_succ, List.cons_append, List.nil_append, List.append_nil, List.length_cons, List.length_nil, decide_eq_true_eq, decide_eq_false_iff_not, Bool.not_eq_true', Bool.not_eq_false', Bool.and_eq_true, Bool.and_eq_false_iff, Bool.true_eq_false, Bool.false_eq_true, Bool.not_true, Bool.not_false, eq_self, D.len_l]; omega) ?_
      have w := wF_rng (hv k (by omega) (by omega))
      have g := gF_spec hv l.length (Nat.le_refl _)
      have gw := g.2 k (by omega) (by omega)
      have ew : wtx (cf l 3 k) = wF l k := rfl
      refine To.viaK (by (try simp (disch := omega) only [X.den, X.dens, X.denss, D.int_i, D.boo_b, D.str_s, D.rows_l, List.getD_cons_zero, List.getD_cons_succ, List.cons_append, List.nil_append, List.append_nil, List.length_cons, List.length_nil, decide_eq_true_eq, decide_eq_false_iff_not, Bool.not_eq_true', Bool.not_eq_false', Bool.and_eq_true, Bool.and_eq_false_iff, Bool.true_eq_false, Bool.false_eq_true, Bool.not_true, Bool.not_false, eq_self, D.len_l, wr64, not_true_eq_false, not_false_eq_true]); exact weight_gen (d := (D.l l).cell k 3)) ?_
      rintro _ ρ2 rfl eρ
      refine ⟨rfl, ?_⟩
      simp only [List.cons_append, List.nil_append] at eρ
      subst eρ
      refine To.viaK (by (try simp (disch := omega) only [X.den, X.dens, X.denss, D.int_i, D.boo_b, D.str_s, D.rows_l, List.getD_cons_zero, List.getD_cons_succ, List.cons_append, List.nil_append, List.append_nil, List.length_cons, List.length_nil, decide_eq_true_eq, decide_eq_false_iff_not, Bool.not_eq_true', Bool.not_eq_false', Bool.and_eq_true, Bool.and_eq_false_iff, Bool.true_eq_false, Bool.false_eq_true, Bool.not_true, Bool.not_false, eq_self, D.len_l, wr64, not_true_eq_false, not_false_eq_true, cf_def, ew]); exact up_full (n := 1000 * wF l k) (d := gF l l.length) (by omega) (by omega) (by omega) (by omega)) ?_
      rintro _ ρ2 rfl eρ
      refine ⟨rfl, ?_⟩
      simp only [List.cons_append, List.nil_append] at eρ
      subst eρ
      have eu : updv (1000 * wF l k) (gF l l.length) = uF l k := rfl
      have ur := uF_rng hv (show (0 : Int) ≤ k by omega) (by omega)
      have v1 := vF_rng ur (hv k (by omega) (by omega)).1
      have v2 := vF_rng ur (hv k (by omega) (by omega)).2.1
      have s := sums_rng hv k (by omega)
      have e1 : uF l k * cf l 1 k = vF l 1 k := rfl
      have e2 : uF l k * cf l 2 k = vF l 2 k := rfl
      refine To.ret (.inl ⟨rfl, m - 1, by omega, k + 1, ?_, by omega⟩)
      simp (disch := omega) only [X.den, X.dens, X.denss, D.int_i, D.boo_b, D.str_s, D.rows_l, List.getD_cons_zero, List.getD_cons_succ, List.cons_append, List.nil_append, List.append_nil, List.length_cons, List.length_nil, wr64, cf_def, nat_suc, sumf, eu, e1, e2]
    · obtain rfl : k = l.length := by omega
      exact To.ret (.inr ⟨rfl, by simp only [X.den, X.dens, X.denss, D.int_i, D.boo_b, D.str_s, D.rows_l, List.getD_cons_zero, List.getD_cons_succ, List.cons_append, List.nil_append, List.append_nil, List.length_cons, List.length_nil]⟩)
  rintro o ρ2 rfl eρ
  simp only [List.cons_append, List.nil_append] at eρ
  subst eρ
  refine ⟨rfl, ?_⟩
  have s := sums_rng hv l.length (Nat.le_refl _)
  refine To.viaK (by (try simp (disch := omega) only [X.den, X.dens, X.denss, D.int_i, D.boo_b, D.str_s, D.rows_l, List.getD_cons_zero, List.getD_cons_succ, List.cons_append, List.nil_append, List.append_nil, List.length_cons, List.length_nil, decide_eq_true_eq, decide_eq_false_iff_not, Bool.not_eq_true', Bool.not_eq_false', Bool.and_eq_true, Bool.and_eq_false_iff, Bool.true_eq_false, Bool.false_eq_true, Bool.not_true, Bool.not_false, eq_self, D.len_l, wr64, not_true_eq_false, not_false_eq_true]); exact half_full (n := sumf (vF l 1) l.length) (d := sumf (uF l) l.length) (by omega) (by omega) (by omega) (by omega)) ?_
  rintro _ ρ2 rfl eρ
  refine ⟨rfl, ?_⟩
  simp only [List.cons_append, List.nil_append] at eρ
  subst eρ
  refine To.viaK (by (try simp (disch := omega) only [X.den, X.dens, X.denss, D.int_i, D.boo_b, D.str_s, D.rows_l, List.getD_cons_zero, List.getD_cons_succ, List.cons_append, List.nil_append, List.append_nil, List.length_cons, List.length_nil, decide_eq_true_eq, decide_eq_false_iff_not, Bool.not_eq_true', Bool.not_eq_false', Bool.and_eq_true, Bool.and_eq_false_iff, Bool.true_eq_false, Bool.false_eq_true, Bool.not_true, Bool.not_false, eq_self, D.len_l, wr64, not_true_eq_false, not_false_eq_true]); exact half_full (n := sumf (vF l 2) l.length) (d := sumf (uF l) l.length) (by omega) (by omega) (by omega) (by omega)) ?_
  rintro _ ρ2 rfl eρ
  refine ⟨rfl, ?_⟩
  simp only [List.cons_append, List.nil_append] at eρ
  subst eρ
  refine To.ret ?_
  simp only [X.den, X.dens, X.denss, D.int_i, D.boo_b, D.str_s, D.rows_l, List.getD_cons_zero, List.getD_cons_succ, List.cons_append, List.nil_append, List.append_nil, List.length_cons, List.length_nil, pF]
theorem gMean_ok : ConOk Try.prog gMean_K (gMean_T.run mnM 30) := con_run follows (one_con (gHalf_ok.to _) (one_con (gUp_ok.to _) (one_con (gWei_ok.to _) no_cons))) gMean_t rfl 30
def fuM : Models := Models.on gChk_K.f (gChk_T.run gcM 30) (Models.on gMean_K.f (gMean_T.run mnM 30) (Models.on gBox_K.f (gBox_T.run noM 0) noM))
theorem bF_spec {l : List (List D)} {p q : Int} (hv : ∀ i : Int, 0 ≤ i → i < l.length → okF l i) (hp : -100000000 ≤ p ∧ p ≤ 100000000) (hq : -100000000 ≤ q ∧ q ≤ 100000000) (k : Nat) (hk : k ≤ l.length) : (0 ≤ bF l p q k ∧ bF l p q k ≤ 300000000) ∧ (∀ i : Int, 0 ≤ i → i < k → bxF l p q i ≤ bF l p q k) := by
  induction k with
  | zero => exact ⟨by simp [bF], by intro i; omega⟩
  | succ k ih =>
    obtain ⟨h1, h2⟩ := ih (by omega)
    have o := hv k (by omega) (by omega)
    unfold okF at o
    have : 0 ≤ bxF l p q k ∧ bxF l p q k ≤ 300000000 := by unfold bxF; omega
    simp only [bF]
    refine ⟨by omega, fun i i0 i1 => ?_⟩
    by_cases e : i = k
    · subst e; omega
    · have := h2 i i0 (by omega); omega
def fuO (l : List (List D)) : List D := [.i (pF l 1), .i (pF l 2), .i (bF l (pF l 1) (pF l 2) l.length), .i 0]
theorem fuse_full {l : List (List D)} (h : fck l = 0) : ∃ o, gFuse_T.run fuM 30 [.l l] = some o ∧ o = [.i (pF l 1), .i (pF l 2), .i (bF l (pF l 1) (pF l 2) l.length), .i 0] := by
  obtain ⟨⟨h0, h1⟩, hv⟩ := fck_zero h
  have p1 := pF_rng (c := 1) h0 (fun i a b => uF_rng hv a b) fun i a b => (hv i a b).1
  have p2 := pF_rng (c := 2) h0 (fun i a b => uF_rng hv a b) fun i a b => (hv i a b).2.1
  refine run_to ?_
  unfold gFuse_T
  refine To.viaK (by (try simp (disch := omega) only [X.den, X.dens, X.denss, D.int_i, D.boo_b, D.str_s, D.rows_l, List.getD_cons_zero, List.getD_cons_succ, List.cons_append, List.nil_append, List.append_nil, List.length_cons, List.length_nil, decide_eq_true_eq, decide_eq_false_iff_not, Bool.not_eq_true', Bool.not_eq_false', Bool.and_eq_true, Bool.and_eq_false_iff, Bool.true_eq_false, Bool.false_eq_true, Bool.not_true, Bool.not_false, eq_self, D.len_l, wr64, not_true_eq_false, not_false_eq_true]); exact check_full) ?_
  rintro _ ρ2 rfl eρ
  refine ⟨rfl, ?_⟩
  simp only [List.cons_append, List.nil_append] at eρ
  subst eρ
  refine To.yes (by simp only [X.den, X.dens, X.denss, D.int_i, D.boo_b, D.str_s, D.rows_l, List.getD_cons_zero, List.getD_cons_succ, List.cons_append, List.nil_append, List.append_nil, List.length_cons, List.length_nil, decide_eq_true_eq, decide_eq_false_iff_not, Bool.not_eq_true', Bool.not_eq_false', Bool.and_eq_true, Bool.and_eq_false_iff, Bool.true_eq_false, Bool.false_eq_true, Bool.not_true, Bool.not_false, eq_self]; exact h) ?_
  refine To.viaK (by (try simp (disch := omega) only [X.den, X.dens, X.denss, D.int_i, D.boo_b, D.str_s, D.rows_l, List.getD_cons_zero, List.getD_cons_succ, List.cons_append, List.nil_append, List.append_nil, List.length_cons, List.length_nil, decide_eq_true_eq, decide_eq_false_iff_not, Bool.not_eq_true', Bool.not_eq_false', Bool.and_eq_true, Bool.and_eq_false_iff, Bool.true_eq_false, Bool.false_eq_true, Bool.not_true, Bool.not_false, eq_self, D.len_l, wr64, not_true_eq_false, not_false_eq_true]); exact mean_full h) ?_
  rintro _ ρ2 rfl eρ
  refine ⟨rfl, ?_⟩
  simp only [List.cons_append, List.nil_append] at eρ
  subst eρ
  generalize pF l 1 = p at *
  generalize pF l 2 = q at *
  refine To.loopK (fun m o => ∃ k : Nat, o = [.i (bF l p q k), .i k] ∧ k + m = l.length) (fun o => o = [.i (bF l p q l.length)]) l.length (by omega) ?_ ?_ ?_
  · exact ⟨0, rfl, by omega⟩
  · rintro m o ρ2 ⟨k, rfl, hk⟩ eρ
    simp only [List.cons_append, List.nil_append] at eρ
    subst eρ
    refine To.ite (fun c => ?_) (fun c => ?_) <;> simp only [X.den, X.dens, X.denss, D.int_i, D.boo_b, D.str_s, D.rows_l, List.getD_cons_zero, List.getD_cons_succ, List.cons_append, List.nil_append, List.append_nil, List.length_cons, List.length_nil, decide_eq_true_eq, decide_eq_false_iff_not, Bool.not_eq_true', Bool.not_eq_false', Bool.and_eq_true, Bool.and_eq_false_iff, Bool.true_eq_false, Bool.false_eq_true, Bool.not_true, Bool.not_false, eq_self, D.len_l] at c
    · refine To.need (by simp only [X.den, X.dens, X.denss, D.int_i, D.boo_b, D.str_s, D.rows_l, List.getD_cons_zero, List.getD_cons_succ, List.cons_append, List.nil_append, List.append_nil, List.length_cons, List.length_nil, decide_eq_true_eq, decide_eq_false_iff_not, Bool.not_eq_true', Bool.not_eq_false', Bool.and_eq_true, Bool.and_eq_false_iff, Bool.true_eq_false, Bool.false_eq_true, Bool.not_true, Bool.not_false, eq_self, D.len_l]; omega) ?_
      have o := hv k (by omega) (by omega)
      have b := bF_spec hv p1 p2 k (by omega)
      refine To.viaK (by (try simp (disch := omega) only [X.den, X.dens, X.denss, D.int_i, D.boo_b, D.str_s, D.rows_l, List.getD_cons_zero, List.getD_cons_succ, List.cons_append, List.nil_append, List.append_nil, List.length_cons, List.length_nil, decide_eq_true_eq, decide_eq_false_iff_not, Bool.not_eq_true', Bool.not_eq_false', Bool.and_eq_true, Bool.and_eq_false_iff, Bool.true_eq_false, Bool.false_eq_true, Bool.not_true, Bool.not_false, eq_self, D.len_l, wr64, not_true_eq_false, not_false_eq_true]); exact box_full (c := (D.l l).cell k 1) (d := (D.l l).cell k 2) p1 p2 o.1 o.2.1) ?_
      rintro _ ρ2 rfl eρ
      refine ⟨rfl, ?_⟩
      simp only [List.cons_append, List.nil_append] at eρ
      subst eρ
      have e : max (max (p - cf l 1 k) (cf l 1 k - p)) (max (q - cf l 2 k) (cf l 2 k - q)) + cf l 3 k = bxF l p q k := rfl
      unfold okF at o
      refine To.ret (.inl ⟨rfl, m - 1, by omega, k + 1, ?_, by omega⟩)
      simp (disch := omega) only [X.den, X.dens, X.denss, D.int_i, D.boo_b, D.str_s, D.rows_l, List.getD_cons_zero, List.getD_cons_succ, List.cons_append, List.nil_append, List.append_nil, List.length_cons, List.length_nil, wr64, cf_def, nat_suc, bF, e]
    · obtain rfl : k = l.length := by omega
      exact To.ret (.inr ⟨rfl, by simp only [X.den, X.dens, X.denss, D.int_i, D.boo_b, D.str_s, D.rows_l, List.getD_cons_zero, List.getD_cons_succ, List.cons_append, List.nil_append, List.append_nil, List.length_cons, List.length_nil]⟩)
  rintro o ρ2 rfl eρ
  simp only [List.cons_append, List.nil_append] at eρ
  subst eρ
  exact ⟨rfl, To.ret (by simp only [X.den, X.dens, X.denss, D.int_i, D.boo_b, D.str_s, D.rows_l, List.getD_cons_zero, List.getD_cons_succ, List.cons_append, List.nil_append, List.append_nil, List.length_cons, List.length_nil])⟩
theorem fuse_bad {l : List (List D)} (h : ¬ fck l = 0) : ∃ o, gFuse_T.run fuM 30 [.l l] = some o ∧ o = [.i 0, .i 0, .i 0, .i (fck l)] := by
  refine run_to ?_
  unfold gFuse_T
  refine To.viaK (by (try simp (disch := omega) only [X.den, X.dens, X.denss, D.int_i, D.boo_b, D.str_s, D.rows_l, List.getD_cons_zero, List.getD_cons_succ, List.cons_append, List.nil_append, List.append_nil, List.length_cons, List.length_nil, decide_eq_true_eq, decide_eq_false_iff_not, Bool.not_eq_true', Bool.not_eq_false', Bool.and_eq_true, Bool.and_eq_false_iff, Bool.true_eq_false, Bool.false_eq_true, Bool.not_true, Bool.not_false, eq_self, D.len_l, wr64, not_true_eq_false, not_false_eq_true]); exact check_full) ?_
  rintro _ ρ2 rfl eρ
  refine ⟨rfl, ?_⟩
  simp only [List.cons_append, List.nil_append] at eρ
  subst eρ
  refine To.no (by simp only [X.den, X.dens, X.denss, D.int_i, D.boo_b, D.str_s, D.rows_l, List.getD_cons_zero, List.getD_cons_succ, List.cons_append, List.nil_append, List.append_nil, List.length_cons, List.length_nil, decide_eq_true_eq, decide_eq_false_iff_not, Bool.not_eq_true', Bool.not_eq_false', Bool.and_eq_true, Bool.and_eq_false_iff, Bool.true_eq_false, Bool.false_eq_true, Bool.not_true, Bool.not_false, eq_self]; exact h) (To.ret ?_)
  simp only [X.den, X.dens, X.denss, D.int_i, D.boo_b, D.str_s, D.rows_l, List.getD_cons_zero, List.getD_cons_succ, List.cons_append, List.nil_append, List.append_nil, List.length_cons, List.length_nil]
theorem gFuse_ok : ConOk Try.prog gFuse_K (gFuse_T.run fuM 30) := con_run follows (one_con (gChk_ok.to _) (one_con (gMean_ok.to _) (one_con (gBox_ok.to _) no_cons))) gFuse_t rfl 30
/-- the sides of boxes -/
def loX (l : List (List D)) (c : Nat) (i : Int) : Int := cf l c i - cf l 3 i
def hiX (l : List (List D)) (c : Nat) (i : Int) : Int := cf l c i + cf l 3 i
def mxF (f : Int → Int) : Nat → Int
  | 0 => f 0
  | k + 1 => max (mxF f k) (f k)
def mnF (f : Int → Int) : Nat → Int
  | 0 => f 0
  | k + 1 => min (mnF f k) (f k)
theorem mxF_ge {f : Int → Int} (k : Nat) : ∀ i : Int, 0 ≤ i → i < k → f i ≤ mxF f k := by
  induction k with
  | zero => intro i; omega
  | succ k ih =>
    intro i i0 i1
    simp only [mxF]
    by_cases e : i = k
    · subst e; omega
    · have := ih i i0 (by omega); omega
theorem mnF_le {f : Int → Int} (k : Nat) : ∀ i : Int, 0 ≤ i → i < k → mnF f k ≤ f i := by
  induction k with
  | zero => intro i; omega
  | succ k ih =>
    intro i i0 i1
    simp only [mnF]
    by_cases e : i = k
    · subst e; omega
    · have := ih i i0 (by omega); omega
theorem cell_drop {l : List (List D)} {k c : Nat} : (D.l (l.drop 1)).cell (k : Int) c = (D.l l).cell ((k + 1 : Nat) : Int) c := by
  simp only [cell_of, Int.toNat_natCast]
  rw [List.getD_eq_getElem?_getD (l := l.drop 1), List.getElem?_drop, ← List.getD_eq_getElem?_getD, Nat.add_comm]
theorem one_nat : (1 : Int).toNat = 1 := rfl
theorem side_rng {l : List (List D)} {i : Int} (h : okF l i) : (-200000000 ≤ loX l 1 i ∧ loX l 1 i ≤ 200000000) ∧ (-200000000 ≤ loX l 2 i ∧ loX l 2 i ≤ 200000000) ∧ (-200000000 ≤ hiX l 1 i ∧ hiX l 1 i ≤ 200000000) ∧ (-200000000 ≤ hiX l 2 i ∧ hiX l 2 i ≤ 200000000) := by
  unfold okF at h
  unfold loX hiX
  omega
theorem hull_full {l : List (List D)} (h : fck l = 0) : ∃ o, gHul_T.run (Models.on gChk_K.f (gChk_T.run gcM 30) noM) 30 [.l l] = some o ∧ o = [.i (mnF (loX l 1) l.length), .i (mnF (loX l 2) l.length), .i (mxF (hiX l 1) l.length), .i (mxF (hiX l 2) l.length), .b true] := by
  obtain ⟨⟨h0, h1⟩, hv⟩ := fck_zero h
  refine run_to ?_
  unfold gHul_T
  refine To.viaK (by (try simp (disch := omega) only [X.den, X.dens, X.denss, D.int_i, D.boo_b, D.str_s, D.rows_l, List.getD_cons_zero, List.getD_cons_succ, List.cons_append, List.nil_append, List.append_nil, List.length_cons, List.length_nil, decide_eq_true_eq, decide_eq_false_iff_not, Bool.not_eq_true', Bool.not_eq_false', Bool.and_eq_true, Bool.and_eq_false_iff, Bool.true_eq_false, Bool.false_eq_true, Bool.not_true, Bool.not_false, eq_self, D.len_l, wr64, not_true_eq_false, not_false_eq_true]); exact check_full) ?_
  rintro _ ρ2 rfl eρ
  refine ⟨rfl, ?_⟩
  simp only [List.cons_append, List.nil_append] at eρ
  subst eρ
  refine To.yes (by simp only [X.den, X.dens, X.denss, D.int_i, D.boo_b, D.str_s, D.rows_l, List.getD_cons_zero, List.getD_cons_succ, List.cons_append, List.nil_append, List.append_nil, List.length_cons, List.length_nil, decide_eq_true_eq, decide_eq_false_iff_not, Bool.not_eq_true', Bool.not_eq_false', Bool.and_eq_true, Bool.and_eq_false_iff, Bool.true_eq_false, Bool.false_eq_true, Bool.not_true, Bool.not_false, eq_self]; exact h) ?_
  refine To.need (by simp only [X.den, X.dens, X.denss, D.int_i, D.boo_b, D.str_s, D.rows_l, List.getD_cons_zero, List.getD_cons_succ, List.cons_append, List.nil_append, List.append_nil, List.length_cons, List.length_nil, decide_eq_true_eq, decide_eq_false_iff_not, Bool.not_eq_true', Bool.not_eq_false', Bool.and_eq_true, Bool.and_eq_false_iff, Bool.true_eq_false, Bool.false_eq_true, Bool.not_true, Bool.not_false, eq_self, D.len_l]; omega) ?_
  refine To.need (by simp only [X.den, X.dens, X.denss, D.int_i, D.boo_b, D.str_s, D.rows_l, List.getD_cons_zero, List.getD_cons_succ, List.cons_append, List.nil_append, List.append_nil, List.length_cons, List.length_nil, decide_eq_true_eq, decide_eq_false_iff_not, Bool.not_eq_true', Bool.not_eq_false', Bool.and_eq_true, Bool.and_eq_false_iff, Bool.true_eq_false, Bool.false_eq_true, Bool.not_true, Bool.not_false, eq_self, D.len_l]; omega) ?_
  have dl : (l.drop 1).length = l.length - 1 := List.length_drop
  have ok0 := side_rng (hv 0 (by omega) (by omega))
  have o0 := hv 0 (by omega) (by omega)
  unfold okF at o0
  refine To.loopK (fun m o => ∃ k : Nat, o = [.i (mnF (loX l 1) (k + 1)), .i (mnF (loX l 2) (k + 1)), .i (mxF (hiX l 1) (k + 1)), .i (mxF (hiX l 2) (k + 1)), .i k] ∧ k + 1 + m = l.length) (fun o => o = [.i (mnF (loX l 1) l.length), .i (mnF (loX l 2) l.length), .i (mxF (hiX l 1) l.length), .i (mxF (hiX l 2) l.length)]) (l.length - 1) (by omega) ?_ ?_ ?_
  · refine ⟨0, ?_, by omega⟩
    simp (disch := omega) only [X.den, X.dens, X.denss, D.int_i, D.boo_b, D.str_s, D.rows_l, List.getD_cons_zero, List.getD_cons_succ, List.cons_append, List.nil_append, List.append_nil, List.length_cons, List.length_nil, wr64, cf_def, mnF, mxF]
    simp [loX, hiX]
  · rintro m o ρ2 ⟨k, rfl, hk⟩ eρ
    simp only [List.cons_append, List.nil_append] at eρ
    subst eρ
    refine To.ite (fun c => ?_) (fun c => ?_) <;> simp only [X.den, X.dens, X.denss, D.int_i, D.boo_b, D.str_s, D.rows_l, List.getD_cons_zero, List.getD_cons_succ, List.cons_append, List.nil_append, List.append_nil, List.length_cons, List.length_nil, decide_eq_true_eq, decide_eq_false_iff_not, Bool.not_eq_true', Bool.not_eq_false', Bool.and_eq_true, Bool.and_eq_false_iff, Bool.true_eq_false, Bool.false_eq_true, Bool.not_true, Bool.not_false, eq_self, D.len_l, one_nat, dl] at c
    · refine To.need (by simp only [X.den, X.dens, X.denss, D.int_i, D.boo_b, D.str_s, D.rows_l, List.getD_cons_zero, List.getD_cons_succ, List.cons_append, List.nil_append, List.append_nil, List.length_cons, List.length_nil, decide_eq_true_eq, decide_eq_false_iff_not, Bool.not_eq_true', Bool.not_eq_false', Bool.and_eq_true, Bool.and_eq_false_iff, Bool.true_eq_false, Bool.false_eq_true, Bool.not_true, Bool.not_false, eq_self, D.len_l, one_nat, dl]; omega) ?_
      have o1 := hv ((k + 1 : Nat) : Int) (by omega) (by omega)
      unfold okF at o1
      have e1 : cf l 1 ((k + 1 : Nat) : Int) - cf l 3 ((k + 1 : Nat) : Int) = loX l 1 ((k + 1 : Nat) : Int) := rfl
      have e2 : cf l 2 ((k + 1 : Nat) : Int) - cf l 3 ((k + 1 : Nat) : Int) = loX l 2 ((k + 1 : Nat) : Int) := rfl
      have e3 : cf l 1 ((k + 1 : Nat) : Int) + cf l 3 ((k + 1 : Nat) : Int) = hiX l 1 ((k + 1 : Nat) : Int) := rfl
      have e4 : cf l 2 ((k + 1 : Nat) : Int) + cf l 3 ((k + 1 : Nat) : Int) = hiX l 2 ((k + 1 : Nat) : Int) := rfl
      have u1 : mnF (loX l 1) (k + 1 + 1) = min (mnF (loX l 1) (k + 1)) (loX l 1 ((k + 1 : Nat) : Int)) := rfl
      have u2 : mnF (loX l 2) (k + 1 + 1) = min (mnF (loX l 2) (k + 1)) (loX l 2 ((k + 1 : Nat) : Int)) := rfl
      have u3 : mxF (hiX l 1) (k + 1 + 1) = max (mxF (hiX l 1) (k + 1)) (hiX l 1 ((k + 1 : Nat) : Int)) := rfl
      have u4 : mxF (hiX l 2) (k + 1 + 1) = max (mxF (hiX l 2) (k + 1)) (hiX l 2 ((k + 1 : Nat) : Int)) := rfl
      refine To.ret (.inl ⟨rfl, m - 1, by omega, k + 1, ?_, by omega⟩)
      rw [u1, u2, u3, u4]
      simp (disch := omega) only [X.den, X.dens, X.denss, D.int_i, D.boo_b, D.str_s, D.rows_l, List.getD_cons_zero, List.getD_cons_succ, List.cons_append, List.nil_append, List.append_nil, List.length_cons, List.length_nil, one_nat, cell_drop, wr64, cf_def, e1, e2, e3, e4, nat_suc]
    · have ek : k + 1 = l.length := by omega
      exact To.ret (.inr ⟨rfl, by simp only [X.den, X.dens, X.denss, D.int_i, D.boo_b, D.str_s, D.rows_l, List.getD_cons_zero, List.getD_cons_succ, List.cons_append, List.nil_append, List.append_nil, List.length_cons, List.length_nil, ek]⟩)
  rintro o ρ2 rfl eρ
  simp only [List.cons_append, List.nil_append] at eρ
  subst eρ
  exact ⟨rfl, To.ret (by simp only [X.den, X.dens, X.denss, D.int_i, D.boo_b, D.str_s, D.rows_l, List.getD_cons_zero, List.getD_cons_succ, List.cons_append, List.nil_append, List.append_nil, List.length_cons, List.length_nil])⟩
def coO (l : List (List D)) : List D := if mnF (hiX l 1) l.length < mxF (loX l 1) l.length ∨ mnF (hiX l 2) l.length < mxF (loX l 2) l.length then [.i 0, .i 0, .i 0, .i 0, .b false] else [.i (mxF (loX l 1) l.length), .i (mxF (loX l 2) l.length), .i (mnF (hiX l 1) l.length), .i (mnF (hiX l 2) l.length), .b true]
theorem common_full {l : List (List D)} (h : fck l = 0) : ∃ o, gCom_T.run (Models.on gChk_K.f (gChk_T.run gcM 30) noM) 30 [.l l] = some o ∧ o = coO l := by
  obtain ⟨⟨h0, h1⟩, hv⟩ := fck_zero h
  refine run_to ?_
  unfold gCom_T
  refine To.viaK (by (try simp (disch := omega) only [X.den, X.dens, X.denss, D.int_i, D.boo_b, D.str_s, D.rows_l, List.getD_cons_zero, List.getD_cons_succ, List.cons_append, List.nil_append, List.append_nil, List.length_cons, List.length_nil, decide_eq_true_eq, decide_eq_false_iff_not, Bool.not_eq_true', Bool.not_eq_false', Bool.and_eq_true, Bool.and_eq_false_iff, Bool.true_eq_false, Bool.false_eq_true, Bool.not_true, Bool.not_false, eq_self, D.len_l, wr64, not_true_eq_false, not_false_eq_true]); exact check_full) ?_
  rintro _ ρ2 rfl eρ
  refine ⟨rfl, ?_⟩
  simp only [List.cons_append, List.nil_append] at eρ
  subst eρ
  refine To.yes (by simp only [X.den, X.dens, X.denss, D.int_i, D.boo_b, D.str_s, D.rows_l, List.getD_cons_zero, List.getD_cons_succ, List.cons_append, List.nil_append, List.append_nil, List.length_cons, List.length_nil, decide_eq_true_eq, decide_eq_false_iff_not, Bool.not_eq_true', Bool.not_eq_false', Bool.and_eq_true, Bool.and_eq_false_iff, Bool.true_eq_false, Bool.false_eq_true, Bool.not_true, Bool.not_false, eq_self]; exact h) ?_
  refine To.need (by simp only [X.den, X.dens, X.denss, D.int_i, D.boo_b, D.str_s, D.rows_l, List.getD_cons_zero, List.getD_cons_succ, List.cons_append, List.nil_append, List.append_nil, List.length_cons, List.length_nil, decide_eq_true_eq, decide_eq_false_iff_not, Bool.not_eq_true', Bool.not_eq_false', Bool.and_eq_true, Bool.and_eq_false_iff, Bool.true_eq_false, Bool.false_eq_true, Bool.not_true, Bool.not_false, eq_self, D.len_l]; omega) ?_
  refine To.need (by simp only [X.den, X.dens, X.denss, D.int_i, D.boo_b, D.str_s, D.rows_l, List.getD_cons_zero, List.getD_cons_succ, List.cons_append, List.nil_append, List.append_nil, List.length_cons, List.length_nil, decide_eq_true_eq, decide_eq_false_iff_not, Bool.not_eq_true', Bool.not_eq_false', Bool.and_eq_true, Bool.and_eq_false_iff, Bool.true_eq_false, Bool.false_eq_true, Bool.not_true, Bool.not_false, eq_self, D.len_l]; omega) ?_
  have dl : (l.drop 1).length = l.length - 1 := List.length_drop
  have o0 := hv 0 (by omega) (by omega)
  unfold okF at o0
  refine To.loopK (fun m o => ∃ k : Nat, o = [.i (mxF (loX l 1) (k + 1)), .i (mxF (loX l 2) (k + 1)), .i (mnF (hiX l 1) (k + 1)), .i (mnF (hiX l 2) (k + 1)), .i k] ∧ k + 1 + m = l.length) (fun o => o = [.i (mxF (loX l 1) l.length), .i (mxF (loX l 2) l.length), .i (mnF (hiX l 1) l.length), .i (mnF (hiX l 2) l.length)]) (l.length - 1) (by omega) ?_ ?_ ?_
  · refine ⟨0, ?_, by omega⟩
    simp (disch := omega) only [X.den, X.dens, X.denss, D.int_i, D.boo_b, D.str_s, D.rows_l, List.getD_cons_zero, List.getD_cons_succ, List.cons_append, List.nil_append, List.append_nil, List.length_cons, List.length_nil, wr64, cf_def, mnF, mxF]
    simp [loX, hiX]
  · rintro m o ρ2 ⟨k, rfl, hk⟩ eρ
    simp only [List.cons_append, List.nil_append] at eρ
    subst eρ
    refine To.ite (fun c => ?_) (fun c => ?_) <;> simp only [X.den, X.dens, X.denss, D.int_i, D.boo_b, D.str_s, D.rows_l, List.getD_cons_zero, List.getD_cons_succ, List.cons_append, List.nil_append, List.append_nil, List.length_cons, List.length_nil, decide_eq_true_eq, decide_eq_false_iff_not, Bool.not_eq_true', Bool.not_eq_false', Bool.and_eq_true, Bool.and_eq_false_iff, Bool.true_eq_false, Bool.false_eq_true, Bool.not_true, Bool.not_false, eq_self, D.len_l, one_nat, dl] at c
    · refine To.need (by simp only [X.den, X.dens, X.denss, D.int_i, D.boo_b, D.str_s, D.rows_l, List.getD_cons_zero, List.getD_cons_succ, List.cons_append, List.nil_append, List.append_nil, List.length_cons, List.length_nil, decide_eq_true_eq, decide_eq_false_iff_not, Bool.not_eq_true', Bool.not_eq_false', Bool.and_eq_true, Bool.and_eq_false_iff, Bool.true_eq_false, Bool.false_eq_true, Bool.not_true, Bool.not_false, eq_self, D.len_l, one_nat, dl]; omega) ?_
      have o1 := hv ((k + 1 : Nat) : Int) (by omega) (by omega)
      unfold okF at o1
      have e1 : cf l 1 ((k + 1 : Nat) : Int) - cf l 3 ((k + 1 : Nat) : Int) = loX l 1 ((k + 1 : Nat) : Int) := rfl
      have e2 : cf l 2 ((k + 1 : Nat) : Int) - cf l 3 ((k + 1 : Nat) : Int) = loX l 2 ((k + 1 : Nat) : Int) := rfl
      have e3 : cf l 1 ((k + 1 : Nat) : Int) + cf l 3 ((k + 1 : Nat) : Int) = hiX l 1 ((k + 1 : Nat) : Int) := rfl
      have e4 : cf l 2 ((k + 1 : Nat) : Int) + cf l 3 ((k + 1 : Nat) : Int) = hiX l 2 ((k + 1 : Nat) : Int) := rfl
      have u1 : mxF (loX l 1) (k + 1 + 1) = max (mxF (loX l 1) (k + 1)) (loX l 1 ((k + 1 : Nat) : Int)) := rfl
      have u2 : mxF (loX l 2) (k + 1 + 1) = max (mxF (loX l 2) (k + 1)) (loX l 2 ((k + 1 : Nat) : Int)) := rfl
      have u3 : mnF (hiX l 1) (k + 1 + 1) = min (mnF (hiX l 1) (k + 1)) (hiX l 1 ((k + 1 : Nat) : Int)) := rfl
      have u4 : mnF (hiX l 2) (k + 1 + 1) = min (mnF (hiX l 2) (k + 1)) (hiX l 2 ((k + 1 : Nat) : Int)) := rfl
      refine To.ret (.inl ⟨rfl, m - 1, by omega, k + 1, ?_, by omega⟩)
      rw [u1, u2, u3, u4]
      simp (disch := omega) only [X.den, X.dens, X.denss, D.int_i, D.boo_b, D.str_s, D.rows_l, List.getD_cons_zero, List.getD_cons_succ, List.cons_append, List.nil_append, List.append_nil, List.length_cons, List.length_nil, one_nat, cell_drop, wr64, cf_def, e1, e2, e3, e4, nat_suc]
    · have ek : k + 1 = l.length := by omega
      exact To.ret (.inr ⟨rfl, by simp only [X.den, X.dens, X.denss, D.int_i, D.boo_b, D.str_s, D.rows_l, List.getD_cons_zero, List.getD_cons_succ, List.cons_append, List.nil_append, List.append_nil, List.length_cons, List.length_nil, ek]⟩)
  rintro o ρ2 rfl eρ
  simp only [List.cons_append, List.nil_append] at eρ
  subst eρ
  refine ⟨rfl, ?_⟩
  refine To.joinK (fun o => ∃ b, o = [.b b] ∧ (b = true ↔ (mnF (hiX l 1) l.length < mxF (loX l 1) l.length ∨ mnF (hiX l 2) l.length < mxF (loX l 2) l.length))) ?_ ?_
  · refine To.ite (fun c => ?_) (fun c => ?_) <;> simp only [X.den, X.dens, X.denss, D.int_i, D.boo_b, D.str_s, D.rows_l, List.getD_cons_zero, List.getD_cons_succ, List.cons_append, List.nil_append, List.append_nil, List.length_cons, List.length_nil, decide_eq_true_eq, decide_eq_false_iff_not, Bool.not_eq_true', Bool.not_eq_false', Bool.and_eq_true, Bool.and_eq_false_iff, Bool.true_eq_false, Bool.false_eq_true, Bool.not_true, Bool.not_false, eq_self] at c
    · exact To.ret ⟨rfl, true, by simp only [X.den, X.dens, X.denss, D.int_i, D.boo_b, D.str_s, D.rows_l, List.getD_cons_zero, List.getD_cons_succ, List.cons_append, List.nil_append, List.append_nil, List.length_cons, List.length_nil], by simp [c]⟩
    · exact To.ret ⟨rfl, decide (mnF (hiX l 2) l.length < mxF (loX l 2) l.length), by simp only [X.den, X.dens, X.denss, D.int_i, D.boo_b, D.str_s, D.rows_l, List.getD_cons_zero, List.getD_cons_succ, List.cons_append, List.nil_append, List.append_nil, List.length_cons, List.length_nil], by rw [decide_eq_true_eq]; simp [c]⟩
  rintro o ρ2 ⟨b, rfl, hb⟩ eρ
  simp only [List.cons_append, List.nil_append] at eρ
  subst eρ
  refine To.ite (fun c => ?_) (fun c => ?_) <;> simp only [X.den, X.dens, X.denss, D.int_i, D.boo_b, D.str_s, D.rows_l, List.getD_cons_zero, List.getD_cons_succ, List.cons_append, List.nil_append, List.append_nil, List.length_cons, List.length_nil] at c
  · refine To.ret ?_
    simp only [X.den, X.dens, X.denss, D.int_i, D.boo_b, D.str_s, D.rows_l, List.getD_cons_zero, List.getD_cons_succ, List.cons_append, List.nil_append, List.append_nil, List.length_cons, List.length_nil, coO]
    rw [if_pos (hb.1 c)]
  · refine To.ret ?_
    simp only [X.den, X.dens, X.denss, D.int_i, D.boo_b, D.str_s, D.rows_l, List.getD_cons_zero, List.getD_cons_succ, List.cons_append, List.nil_append, List.append_nil, List.length_cons, List.length_nil, coO]
    rw [if_neg (fun q => by rw [hb.2 q] at c; cases c)]
theorem hull_bad {l : List (List D)} (h : ¬ fck l = 0) : ∃ o, gHul_T.run (Models.on gChk_K.f (gChk_T.run gcM 30) noM) 30 [.l l] = some o ∧ o = [.i 0, .i 0, .i 0, .i 0, .b false] := by
  refine run_to ?_
  unfold gHul_T
  refine To.viaK (by (try simp (disch := omega) only [X.den, X.dens, X.denss, D.int_i, D.boo_b, D.str_s, D.rows_l, List.getD_cons_zero, List.getD_cons_succ, List.cons_append, List.nil_append, List.append_nil, List.length_cons, List.length_nil, decide_eq_true_eq, decide_eq_false_iff_not, Bool.not_eq_true', Bool.not_eq_false', Bool.and_eq_true, Bool.and_eq_false_iff, Bool.true_eq_false, Bool.false_eq_true, Bool.not_true, Bool.not_false, eq_self, D.len_l, wr64, not_true_eq_false, not_false_eq_true]); exact check_full) ?_
  rintro _ ρ2 rfl eρ
  refine ⟨rfl, ?_⟩
  simp only [List.cons_append, List.nil_append] at eρ
  subst eρ
  refine To.no (by simp only [X.den, X.dens, X.denss, D.int_i, D.boo_b, D.str_s, D.rows_l, List.getD_cons_zero, List.getD_cons_succ, List.cons_append, List.nil_append, List.append_nil, List.length_cons, List.length_nil, decide_eq_true_eq, decide_eq_false_iff_not, Bool.not_eq_true', Bool.not_eq_false', Bool.and_eq_true, Bool.and_eq_false_iff, Bool.true_eq_false, Bool.false_eq_true, Bool.not_true, Bool.not_false, eq_self]; exact h) (To.ret ?_)
  simp only [X.den, X.dens, X.denss, D.int_i, D.boo_b, D.str_s, D.rows_l, List.getD_cons_zero, List.getD_cons_succ, List.cons_append, List.nil_append, List.append_nil, List.length_cons, List.length_nil]
theorem common_bad {l : List (List D)} (h : ¬ fck l = 0) : ∃ o, gCom_T.run (Models.on gChk_K.f (gChk_T.run gcM 30) noM) 30 [.l l] = some o ∧ o = [.i 0, .i 0, .i 0, .i 0, .b false] := by
  refine run_to ?_
  unfold gCom_T
  refine To.viaK (by (try simp (disch := omega) only [X.den, X.dens, X.denss, D.int_i, D.boo_b, D.str_s, D.rows_l, List.getD_cons_zero, List.getD_cons_succ, List.cons_append, List.nil_append, List.append_nil, List.length_cons, List.length_nil, decide_eq_true_eq, decide_eq_false_iff_not, Bool.not_eq_true', Bool.not_eq_false', Bool.and_eq_true, Bool.and_eq_false_iff, Bool.true_eq_false, Bool.false_eq_true, Bool.not_true, Bool.not_false, eq_self, D.len_l, wr64, not_true_eq_false, not_false_eq_true]); exact check_full) ?_
  rintro _ ρ2 rfl eρ
  refine ⟨rfl, ?_⟩
  simp only [List.cons_append, List.nil_append] at eρ
  subst eρ
  refine To.no (by simp only [X.den, X.dens, X.denss, D.int_i, D.boo_b, D.str_s, D.rows_l, List.getD_cons_zero, List.getD_cons_succ, List.cons_append, List.nil_append, List.append_nil, List.length_cons, List.length_nil, decide_eq_true_eq, decide_eq_false_iff_not, Bool.not_eq_true', Bool.not_eq_false', Bool.and_eq_true, Bool.and_eq_false_iff, Bool.true_eq_false, Bool.false_eq_true, Bool.not_true, Bool.not_false, eq_self]; exact h) (To.ret ?_)
  simp only [X.den, X.dens, X.denss, D.int_i, D.boo_b, D.str_s, D.rows_l, List.getD_cons_zero, List.getD_cons_succ, List.cons_append, List.nil_append, List.append_nil, List.length_cons, List.length_nil]
theorem gHul_ok : ConOk Try.prog gHul_K (gHul_T.run (Models.on gChk_K.f (gChk_T.run gcM 30) noM) 30) := con_run follows (one_con (gChk_ok.to _) no_cons) gHul_t rfl 30
theorem gCom_ok : ConOk Try.prog gCom_K (gCom_T.run (Models.on gChk_K.f (gChk_T.run gcM 30) noM) 30) := con_run follows (one_con (gChk_ok.to _) no_cons) gCom_t rfl 30
theorem sane09x_ok : ConOk Try.prog sane09x_K fun _ => some [.b true] :=
  con_of follows (M := noM) no_cons sane09x_t fun ds outs _ h => by
    injection h with h
    subst h
    exact ⟨fun i l h k => by simp [sane09x_K] at k, 0, [.B true], ds, rfl, rfl⟩
end Go.Proofs.Ytlhnhidoljfnnaa
