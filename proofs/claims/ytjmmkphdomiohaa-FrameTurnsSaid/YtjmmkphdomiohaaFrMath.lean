/- Plain facts on points of the plane. -/
import Derived.Test.YtjmmkphdomiohaaAnMath
namespace Go.Proofs.Ytjmmkphdomiohaa
namespace Fr
def Ok (x : Int) : Prop := -100000000 ≤ x ∧ x ≤ 100000000
instance (x : Int) : Decidable (Ok x) := by unfold Ok; infer_instance
def valid (x y : Int) : Bool := decide (Ok x ∧ Ok y)
def Four (a b c d : Int) : Prop := (Ok a ∧ Ok b) ∧ Ok c ∧ Ok d
instance (a b c d : Int) : Decidable (Four a b c d) := by unfold Four; infer_instance
def Sum (a b c d : Int) : Prop := Four a b c d ∧ Ok (a + c) ∧ Ok (b + d)
instance (a b c d : Int) : Decidable (Sum a b c d) := by unfold Sum; infer_instance
def Dif (a b c d : Int) : Prop := Four a b c d ∧ Ok (a - c) ∧ Ok (b - d)
instance (a b c d : Int) : Decidable (Dif a b c d) := by unfold Dif; infer_instance
def abs (x : Int) : Int := if x < 0 then -x else x
def box (a b c d : Int) : Int := if Four a b c d then max (abs (a - c)) (abs (b - d)) else 0
def sq (a b c d : Int) : Int := (a - c) * (a - c) + (b - d) * (b - d)
/-- the smallest number whose square is at least n -/
def IsUp (n r : Int) : Prop := 0 ≤ r ∧ n ≤ r * r ∧ ∀ s, 0 ≤ s → n ≤ s * s → r ≤ s
noncomputable def uproot (n : Int) : Int := if Ar.isqrt n * Ar.isqrt n < n then Ar.isqrt n + 1 else Ar.isqrt n
noncomputable def dist (a b c d : Int) : Int := if Four a b c d then uproot (sq a b c d) else 0
def err (P : Prop) [Decidable P] : Int := if P then 0 else 1
def turnx (x y a : Int) : Int := if Ok x ∧ Ok y then Ar.half (x * An.cos a - y * An.sin a) 10000 else 0
def turny (x y a : Int) : Int := if Ok x ∧ Ok y then Ar.half (x * An.sin a + y * An.cos a) 10000 else 0
theorem fits {x : Int} (h : Ok x) : An.Fits x := by unfold Ok at h; unfold An.Fits; omega
theorem sq_bd {x : Int} (h0 : -200000000 ≤ x) (h1 : x ≤ 200000000) : 0 ≤ x * x ∧ x * x ≤ 40000000000000000 := by
  constructor
  · rcases (by omega : 0 ≤ x ∨ x ≤ 0) with h | h
    · exact Int.mul_nonneg h h
    · exact Int.mul_nonneg_of_nonpos_of_nonpos h h
  · have e : (200000000 - x) * (200000000 + x) = 40000000000000000 - x * x := by rw [Int.sub_mul, Int.mul_add, Int.mul_add]; omega
    have : 0 ≤ (200000000 - x) * (200000000 + x) := Int.mul_nonneg (by omega) (by omega)
    omega
theorem sq_range {a b c d : Int} (h : Four a b c d) : 0 ≤ (a - c) * (a - c) ∧ (a - c) * (a - c) ≤ 40000000000000000 ∧ 0 ≤ (b - d) * (b - d) ∧ (b - d) * (b - d) ≤ 40000000000000000 := by
  unfold Four Ok at h
  have h1 := sq_bd (x := a - c) (by omega) (by omega)
  have h2 := sq_bd (x := b - d) (by omega) (by omega)
  omega
theorem uproot_is {n : Int} (h : 0 ≤ n) : IsUp n (uproot n) := by
  obtain ⟨r0, r1, r2⟩ := Ar.isqrt_is h
  unfold uproot
  generalize Ar.isqrt n = r at *
  have mono : ∀ a b : Int, 0 ≤ a → a ≤ b → a * a ≤ b * b := fun a b => Ar.sq_le
  split
  · refine ⟨by omega, by omega, fun s s0 hs => ?_⟩
    rcases (by omega : r + 1 ≤ s ∨ s ≤ r) with k | k
    · exact k
    · have := mono s r s0 k; omega
  · refine ⟨r0, by omega, fun s s0 hs => ?_⟩
    rcases (by omega : r ≤ s ∨ s + 1 ≤ r) with k | k
    · exact k
    · have e : (s + 1) * (s + 1) = s * s + s + s + 1 := by rw [Int.add_mul, Int.mul_add]; omega
      have := mono (s + 1) r (by omega) k; omega
end Fr
end Go.Proofs.Ytjmmkphdomiohaa
