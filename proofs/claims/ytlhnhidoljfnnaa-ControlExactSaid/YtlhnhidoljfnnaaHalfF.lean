/- Rounded division in trees. -/
import Derived.Test.YtlhnhidoljfnnaaPrg
set_option linter.unusedVariables false
set_option linter.unusedSimpArgs false
namespace Go.Proofs.Ytlhnhidoljfnnaa
open Go.RowKit Fx
theorem getD_end {α : Type} {ρ : List α} {x d0 : α} {d : Nat} (h : ρ.length = d) (l : List α) : (ρ ++ x :: l).getD d d0 = x := by
  rw [List.getD_eq_getElem?_getD, List.getElem?_append_right (by omega), h, Nat.sub_self]
  rfl
theorem getD_end1 {α : Type} {ρ : List α} {x y d0 : α} {d : Nat} (h : ρ.length = d) (l : List α) : (ρ ++ x :: y :: l).getD (d + 1) d0 = y := by
  rw [List.getD_eq_getElem?_getD, List.getElem?_append_right (by omega), h, Nat.add_sub_cancel_left]
  rfl
/-- a rounded division: quotient, rest, the rounded one -/
theorem To.half {M : Models} {N : Nat} {α : Type} {ρ : List D} {Q : α → List D → Prop} {e : X} {d : Nat} {n c : Int} {k : T α} (hc : 0 < c) (he : (e.den ρ).int = n) (hl : ρ.length = d)
    (h : k.To M N (ρ ++ [.i (n / c), .i (n % c), .i ((2 * n + c) / (2 * c))]) Q) :
    (T.sub (.ite (.lt (.rem e (.N c)) (.N 0)) (.ret [.sub (.quo e (.N c)) (.N 1), .add (.rem e (.N c)) (.N c)]) (.ret [.quo e (.N c), .rem e (.N c)])) 2
      (T.sub (.ite (.lt (.mul (.N 2) (.V (d + 1))) (.N c)) (.ret [.V d]) (.ret [.add (.V d) (.N 1)])) 1 k)).To M N ρ Q := by
  have key : ∀ q r : Int, q = n / c → r = n % c → (T.sub (.ite (.lt (.mul (.N 2) (.V (d + 1))) (.N c)) (.ret [.V d]) (.ret [.add (.V d) (.N 1)])) 1 k).To M N (ρ ++ [.i q, .i r]) Q := by
    rintro q r rfl rfl
    have hdm := Int.emod_add_mul_ediv n c
    have r0 := Int.emod_nonneg n (show c ≠ 0 by omega)
    have r1 := Int.emod_lt_of_pos n hc
    have v1 : (X.den (ρ ++ [.i (n / c), .i (n % c)]) (.V (d + 1))) = .i (n % c) := getD_end1 hl []
    have v0 : (X.den (ρ ++ [.i (n / c), .i (n % c)]) (.V d)) = .i (n / c) := getD_end hl _
    have dv : ∀ q r : Int, 2 * n + c = r + (2 * c) * q → 0 ≤ r → r < 2 * c → (2 * n + c) / (2 * c) = q := fun q r e a b => by
      rw [e, Int.add_mul_ediv_left _ _ (by omega), Int.ediv_eq_zero_of_lt a b, Int.zero_add]
    refine To.sub (To.ite (fun cc => To.ret ⟨rfl, ?_⟩) (fun cc => To.ret ⟨rfl, ?_⟩))
    · simp only [X.dens, v0, List.append_assoc, List.cons_append, List.nil_append]
      have cc : 2 * ((ρ ++ [D.i (n / c), D.i (n % c)]).getD (d + 1) (D.i 0)).int < c := of_decide_eq_true cc
      rw [getD_end1 hl []] at cc
      have cc : 2 * (n % c) < c := cc
      rw [dv (n / c) (2 * (n % c) + c) (by rw [Int.mul_assoc]; omega) (by omega) (by omega)] at h
      exact h
    · simp only [X.dens, List.append_assoc, List.cons_append, List.nil_append]
      rw [show X.den (ρ ++ [.i (n / c), .i (n % c)]) (.add (.V d) (.N 1)) = .i (n / c + 1) by simp only [X.den]; rw [getD_end hl]; rfl]
      have cc : ¬ 2 * ((ρ ++ [D.i (n / c), D.i (n % c)]).getD (d + 1) (D.i 0)).int < c := of_decide_eq_false cc
      rw [getD_end1 hl []] at cc
      have cc : ¬ 2 * (n % c) < c := cc
      rw [dv (n / c + 1) (2 * (n % c) - c) (by rw [Int.mul_add, Int.mul_assoc]; omega) (by omega) (by omega)] at h
      exact h
  have hdm := Int.tdiv_mul_add_tmod n c
  have t1 := Int.lt_tmod_of_pos n hc
  have t2 := Int.tmod_lt_of_pos n hc
  have dq : ∀ q r : Int, n = r + c * q → 0 ≤ r → r < c → q = n / c ∧ r = n % c := fun q r e a b => by
    have hq : n / c = q := by rw [e, Int.add_mul_ediv_left _ _ (by omega), Int.ediv_eq_zero_of_lt a b, Int.zero_add]
    have hr : n % c = r := by rw [e, Int.add_mul_emod_self_left, Int.emod_eq_of_lt a b]
    exact ⟨hq.symm, hr.symm⟩
  refine To.sub (To.ite (fun cc => To.ret ⟨rfl, ?_⟩) (fun cc => To.ret ⟨rfl, ?_⟩))
  · simp only [X.den, D.int_i, D.boo_b, decide_eq_true_eq, he] at cc
    obtain ⟨a, b⟩ := dq (n.tdiv c - 1) (n.tmod c + c) (by rw [Int.mul_sub, Int.mul_comm]; omega) (by omega) (by omega)
    simp only [X.dens, X.den, D.int_i, he]
    exact key _ _ a b
  · simp only [X.den, D.int_i, D.boo_b, decide_eq_false_iff_not, he] at cc
    obtain ⟨a, b⟩ := dq (n.tdiv c) (n.tmod c) (by rw [Int.mul_comm]; omega) (by omega) (by omega)
    simp only [X.dens, X.den, D.int_i, he]
    exact key _ _ a b
end Go.Proofs.Ytlhnhidoljfnnaa
