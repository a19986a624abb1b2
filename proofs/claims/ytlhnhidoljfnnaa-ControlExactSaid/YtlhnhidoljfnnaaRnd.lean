/- Division rounded half up, by any divisor, in trees. -/
import Derived.Test.YtlhnhidoljfnnaaHalfF
import Derived.Test.YtlhnhidoljfnnaaTot
set_option linter.unusedVariables false
set_option linter.unusedSimpArgs false
namespace Go.Proofs.Ytlhnhidoljfnnaa
open Go.RowKit Fx
/-- n / d, rounded half up -/
def hdv (n d : Int) : Int := (2 * n + d) / (2 * d)
theorem hdv_of {n d q r : Int} (e : n = d * q + r) (r0 : 0 ≤ r) (r1 : r < d) : hdv n d = if 2 * r < d then q else q + 1 := by
  unfold hdv
  have dv : ∀ q r' : Int, 2 * n + d = r' + (2 * d) * q → 0 ≤ r' → r' < 2 * d → (2 * n + d) / (2 * d) = q := fun q r' e a b => by
    rw [e, Int.add_mul_ediv_left _ _ (by omega), Int.ediv_eq_zero_of_lt a b, Int.zero_add]
  split
  · exact dv q (2 * r + d) (by rw [e, Int.mul_add, Int.mul_assoc]; omega) (by omega) (by omega)
  · exact dv (q + 1) (2 * r - d) (by rw [e, Int.mul_add, Int.mul_add, Int.mul_assoc]; omega) (by omega) (by omega)
theorem hdv_rng {n d a : Int} (hd : 1 ≤ d) (h0 : -a ≤ n) (h1 : n ≤ a) : -a ≤ hdv n d ∧ hdv n d ≤ a := by
  have e := Int.mul_ediv_add_emod n d
  have r0 := Int.emod_nonneg n (show d ≠ 0 by omega)
  have r1 := Int.emod_lt_of_pos n (show 0 < d by omega)
  rw [hdv_of e.symm r0 r1]
  have q0 : -a ≤ n / d := by
    apply Int.not_lt.1
    intro h
    have := Int.mul_le_mul_of_nonneg_left (show n / d ≤ -a - 1 by omega) (show 0 ≤ d by omega)
    have h2 := Int.mul_le_mul_of_nonneg_right hd (show 0 ≤ a by omega)
    rw [Int.mul_sub, Int.mul_neg] at this
    omega
  have q1 : n / d ≤ a := by
    apply Int.not_lt.1
    intro h
    have := Int.mul_le_mul_of_nonneg_left (show a + 1 ≤ n / d by omega) (show 0 ≤ d by omega)
    have h2 := Int.mul_le_mul_of_nonneg_right hd (show 0 ≤ a by omega)
    rw [Int.mul_add] at this
    omega
  split
  · exact ⟨q0, q1⟩
  · rename_i h
    refine ⟨by omega, ?_⟩
    apply Int.not_lt.1
    intro h3
    have e2 : n / d = a := by omega
    rw [e2] at e
    have h2 := Int.mul_le_mul_of_nonneg_right hd (show 0 ≤ a by omega)
    omega
/-- the quotient rounded down and the rest, of a division by what is greater than 0 -/
theorem tdiv_down {n d : Int} (hd : 0 < d) : (if n.tmod d < 0 then n.tdiv d - 1 else n.tdiv d) = n / d ∧ (if n.tmod d < 0 then n.tmod d + d else n.tmod d) = n % d := by
  have hdm := Int.tdiv_mul_add_tmod n d
  have t1 := Int.lt_tmod_of_pos n hd
  have t2 := Int.tmod_lt_of_pos n hd
  have dq : ∀ q r : Int, n = r + d * q → 0 ≤ r → r < d → q = n / d ∧ r = n % d := fun q r e a b => by
    have hq : n / d = q := by rw [e, Int.add_mul_ediv_left _ _ (by omega), Int.ediv_eq_zero_of_lt a b, Int.zero_add]
    have hr : n % d = r := by rw [e, Int.add_mul_emod_self_left, Int.emod_eq_of_lt a b]
    exact ⟨hq.symm, hr.symm⟩
  split
  · exact dq (n.tdiv d - 1) (n.tmod d + d) (by rw [Int.mul_sub, Int.mul_comm]; omega) (by omega) (by omega)
  · exact dq (n.tdiv d) (n.tmod d) (by rw [Int.mul_comm]; omega) (by omega) (by omega)
theorem tdiv_abs {n d a : Int} (hd : 1 ≤ d) (h0 : -a ≤ n) (h1 : n ≤ a) : -a ≤ n.tdiv d ∧ n.tdiv d ≤ a := by
  rcases Int.le_total 0 n with h | h
  · rw [Int.tdiv_eq_ediv_of_nonneg h]
    have := Int.ediv_nonneg h (show 0 ≤ d by omega)
    have := Int.ediv_le_self d h
    omega
  · have e : n.tdiv d = -((-n) / d) := by
      have := Int.neg_tdiv (-n) d
      rw [Int.neg_neg] at this
      rw [this, Int.tdiv_eq_ediv_of_nonneg (by omega)]
    have := Int.ediv_nonneg (a := -n) (by omega) (show 0 ≤ d by omega)
    have := Int.ediv_le_self d (a := -n) (by omega)
    omega
/-- a rounded division as package vessel computes it -/
theorem To.rounded {M : Models} {N : Nat} {α : Type} {ρ : List D} {Q : α → List D → Prop} {e f : X} {v : Nat} {n d : Int} {k : T α} (hn : (e.den ρ).int = n) (hd : (f.den ρ).int = d) (hl : ρ.length = v) (hs : f.sc v = true) (d1 : 1 ≤ d) (d2 : d ≤ 2147483648) (n1 : -2305843009213693952 ≤ n) (n2 : n ≤ 2305843009213693952)
    (h : k.To M N (ρ ++ [.i (hdv n d)]) Q) :
    (T.sub (T.sub (T.need (.not (.eq f (.N 0))) (T.ite (.lt (.rem e f) (.N 0)) (.ret [.wr .i64 (.sub (.wr .i64 (.quo e f)) (.N 1)), .wr .i64 (.add (.rem e f) f)]) (.ret [.wr .i64 (.quo e f), .rem e f]))) 2
      (T.ite (.lt (.wr .i64 (.mul (.N 2) (.V (v + 1)))) f) (.ret [.V v]) (.ret [.wr .i64 (.add (.V v) (.N 1))]))) 1 k).To M N ρ Q := by
  have t1 := Int.lt_tmod_of_pos n (show 0 < d by omega)
  have t2 := Int.tmod_lt_of_pos n (show 0 < d by omega)
  obtain ⟨a1, a2⟩ := tdiv_abs d1 (show -2305843009213693952 ≤ n by omega) n2
  obtain ⟨q1, q2⟩ := tdiv_down (n := n) (show 0 < d by omega)
  have e2 := Int.mul_ediv_add_emod n d
  have r0 := Int.emod_nonneg n (show d ≠ 0 by omega)
  have r1 := Int.emod_lt_of_pos n (show 0 < d by omega)
  have key : (T.ite (.lt (.wr .i64 (.mul (.N 2) (.V (v + 1)))) f) (.ret [.V v]) (.ret [.wr .i64 (.add (.V v) (.N 1))]) : T (List X)).To M N (ρ ++ [.i (n / d), .i (n % d)]) (fun xs ρ' => xs.length = 1 ∧ k.To M N (ρ ++ X.dens ρ' xs) Q) := by
    have v1 : (X.den (ρ ++ [.i (n / d), .i (n % d)]) (.V (v + 1))) = .i (n % d) := getD_end1 hl []
    have v0 : (X.den (ρ ++ [.i (n / d), .i (n % d)]) (.V v)) = .i (n / d) := getD_end hl _
    have fd : (X.den (ρ ++ [.i (n / d), .i (n % d)]) f).int = d := by rw [X.den_ag (nd := v) (fun i hi => getD_pre (by omega)) hs, hd]
    have eq0 : -2305843009213693953 ≤ n / d ∧ n / d ≤ 2305843009213693952 := by rw [← q1]; split <;> omega
    have ht := hdv_of e2.symm r0 r1
    refine To.ite (fun cc => To.ret ⟨rfl, ?_⟩) (fun cc => To.ret ⟨rfl, ?_⟩)
    · have cc : IntKind.i64.wrap (2 * (X.den (ρ ++ [.i (n / d), .i (n % d)]) (.V (v + 1))).int) < (X.den (ρ ++ [.i (n / d), .i (n % d)]) f).int := of_decide_eq_true cc
      rw [v1, fd] at cc
      simp only [D.int_i] at cc
      rw [wr64 (by omega) (by omega)] at cc
      rw [if_pos cc] at ht
      simp only [X.dens, v0]
      rw [← ht]
      exact h
    · have cc : ¬ IntKind.i64.wrap (2 * (X.den (ρ ++ [.i (n / d), .i (n % d)]) (.V (v + 1))).int) < (X.den (ρ ++ [.i (n / d), .i (n % d)]) f).int := of_decide_eq_false cc
      rw [v1, fd] at cc
      simp only [D.int_i] at cc
      rw [wr64 (by omega) (by omega)] at cc
      rw [if_neg cc] at ht
      have : X.den (ρ ++ [.i (n / d), .i (n % d)]) (.wr .i64 (.add (.V v) (.N 1))) = .i (n / d + 1) := by
        simp only [X.den]
        rw [getD_end hl]
        simp only [D.int_i]
        rw [wr64 (by omega) (by omega)]
      simp only [X.dens, this]
      rw [← ht]
      exact h
  refine To.sub (To.sub (To.need ?_ (To.ite (fun cc => To.ret ⟨rfl, ?_⟩) (fun cc => To.ret ⟨rfl, ?_⟩))))
  · simp only [X.den, D.int_i, D.boo_b, hd, Bool.not_eq_true', decide_eq_false_iff_not]; omega
  · simp only [X.den, D.int_i, D.boo_b, decide_eq_true_eq, hn, hd] at cc
    rw [if_pos cc] at q1 q2
    simp only [X.dens, X.den, D.int_i, hn, hd]
    rw [wr64 (z := n.tdiv d) (by omega) (by omega), wr64 (z := n.tdiv d - 1) (by omega) (by omega), wr64 (z := n.tmod d + d) (by omega) (by omega), q1, q2]
    exact key
  · simp only [X.den, D.int_i, D.boo_b, decide_eq_false_iff_not, hn, hd] at cc
    rw [if_neg cc] at q1 q2
    simp only [X.dens, X.den, D.int_i, hn, hd]
    rw [wr64 (z := n.tdiv d) (by omega) (by omega), q1, q2]
    exact key
end Go.Proofs.Ytlhnhidoljfnnaa
