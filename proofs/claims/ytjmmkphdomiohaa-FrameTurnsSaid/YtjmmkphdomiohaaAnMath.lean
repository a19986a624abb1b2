/- Plain facts on angles and sines. It imports nothing of the program. -/
import Derived.Test.YtjmmkphdomiohaaArMath
namespace Go.Proofs.Ytjmmkphdomiohaa
namespace An
def norm (a : Int) : Int := a % 3600
def arch (a : Int) : Int := Ar.half (40000 * (a * (1800 - a))) (4050000 - a * (1800 - a))
def sin (a : Int) : Int := if 1800 < norm a then -arch (norm a - 1800) else arch (norm a)
def cos (a : Int) : Int := sin (norm a + 900)
def diff (a b : Int) : Int := if 1800 < norm (norm b - norm a) then norm (norm b - norm a) - 3600 else norm (norm b - norm a)
theorem norm_range (a : Int) : 0 ≤ norm a ∧ norm a < 3600 := by unfold norm; omega
theorem norm_self {a : Int} (h0 : 0 ≤ a) (h1 : a < 3600) : norm a = a := by unfold norm; omega
theorem norm_norm (a : Int) : norm (norm a) = norm a := by unfold norm; omega
theorem sin_norm (a : Int) : sin (norm a) = sin a := by unfold sin; rw [norm_norm]
theorem cos_norm (a : Int) : cos (norm a) = cos a := by unfold cos; rw [norm_norm]
theorem sin_of {a b : Int} (h : norm a = norm b) : sin a = sin b := by unfold sin; rw [h]
theorem cos_of {a b : Int} (h : norm a = norm b) : cos a = cos b := by unfold cos; rw [h]
theorem prod_range (a : Int) (h0 : 0 ≤ a) (h1 : a ≤ 1800) : 0 ≤ a * (1800 - a) ∧ a * (1800 - a) ≤ 810000 := by
  refine ⟨Int.mul_nonneg h0 (by omega), ?_⟩
  have e : (a - 900) * (a - 900) = 810000 - a * (1800 - a) := by
    rw [Int.mul_sub, Int.sub_mul, Int.mul_sub]; omega
  have : 0 ≤ (a - 900) * (a - 900) := by
    rcases (by omega : 0 ≤ a - 900 ∨ a - 900 ≤ 0) with h | h
    · exact Int.mul_nonneg h h
    · exact Int.mul_nonneg_of_nonpos_of_nonpos h h
  omega
theorem arch_range (a : Int) (h0 : 0 ≤ a) (h1 : a ≤ 1800) : 0 ≤ arch a ∧ arch a ≤ 10000 := by
  obtain ⟨p0, p1⟩ := prod_range a h0 h1
  unfold arch
  generalize a * (1800 - a) = p at *
  have hb := Ar.good (n := 40000 * p) (d := 4050000 - p) ⟨by omega, by omega, by omega, by omega⟩
  rw [Ar.half, if_neg hb]
  constructor
  · exact Int.ediv_nonneg (by omega) (by omega)
  · have : (2 * (40000 * p) + (4050000 - p)) / (2 * (4050000 - p)) < 10001 := Int.ediv_lt_of_lt_mul (by omega) (by omega)
    omega
theorem sin_range (a : Int) : -10000 ≤ sin a ∧ sin a ≤ 10000 := by
  obtain ⟨n0, n1⟩ := norm_range a
  unfold sin
  split
  · have := arch_range (norm a - 1800) (by omega) (by omega); omega
  · have := arch_range (norm a) (by omega) (by omega); omega
theorem cos_range (a : Int) : -10000 ≤ cos a ∧ cos a ≤ 10000 := sin_range _
/-- what is so at each of the 3600 angles -/
def each (p : Int) : Bool :=
  let s := sin p
  let c := cos p
  sin (p + 1800) == -s && cos (p + 1800) == -c && sin (-p) == -s && sin (1800 - p) == s && cos (-p) == c &&
  decide (s * s + c * c - 100000000 ≤ 500000) && decide (-500000 ≤ s * s + c * c - 100000000) && (decide (900 ≤ p) || (decide (s ≤ sin (p + 1)) && decide (cos (p + 1) ≤ c)))
theorem all_each : (List.range 3600).all (fun p => each (p : Int)) = true := by decide +kernel
theorem at_each (a : Int) : each (norm a) = true := by
  obtain ⟨n0, n1⟩ := norm_range a
  have := List.all_eq_true.1 all_each (norm a).toNat (List.mem_range.2 (by omega))
  rw [show ((norm a).toNat : Int) = norm a from by omega] at this
  exact this
/-- arcs -/
def width (f t : Int) : Int := norm (t - f)
def valid (f t : Int) : Bool := decide (0 ≤ f ∧ f < 3600 ∧ 0 ≤ t ∧ t < 3600 ∧ norm (t - f) < 1800)
def inn (f t a : Int) : Bool := valid f t && decide (norm (norm a - f) ≤ norm (t - f))
def Fits (x : Int) : Prop := -1000000000 ≤ x ∧ x ≤ 1000000000
instance (x : Int) : Decidable (Fits x) := by unfold Fits; infer_instance
def cross (a x y : Int) : Int := if Fits x ∧ Fits y then cos a * y - sin a * x else 0
def dot (a x y : Int) : Int := cos a * x + sin a * y
def within (f t x y : Int) : Bool := decide (valid f t = true ∧ ¬ (x = 0 ∧ y = 0) ∧ Fits x ∧ Fits y ∧ 0 ≤ cross f x y ∧ cross t x y ≤ 0 ∧ (0 < cross f x y ∨ 0 < dot f x y))
theorem mul_le {c x : Int} (h : -10000 ≤ c ∧ c ≤ 10000) (k : Fits x) : -10000000000000 ≤ c * x ∧ c * x ≤ 10000000000000 := by
  obtain ⟨k1, k2⟩ := k
  obtain ⟨h1, h2⟩ := h
  have a1 : (10000 - c) * (1000000000 - x) = 10000 * 1000000000 - 10000 * x - c * 1000000000 + c * x := by rw [Int.sub_mul, Int.mul_sub, Int.mul_sub]; omega
  have a2 : (10000 + c) * (1000000000 + x) = 10000 * 1000000000 + 10000 * x + c * 1000000000 + c * x := by rw [Int.add_mul, Int.mul_add, Int.mul_add]; omega
  have a3 : (10000 - c) * (1000000000 + x) = 10000 * 1000000000 + 10000 * x - c * 1000000000 - c * x := by rw [Int.sub_mul, Int.mul_add, Int.mul_add]; omega
  have a4 : (10000 + c) * (1000000000 - x) = 10000 * 1000000000 - 10000 * x + c * 1000000000 - c * x := by rw [Int.add_mul, Int.mul_sub, Int.mul_sub]; omega
  have b1 : 0 ≤ (10000 - c) * (1000000000 - x) := Int.mul_nonneg (by omega) (by omega)
  have b2 : 0 ≤ (10000 + c) * (1000000000 + x) := Int.mul_nonneg (by omega) (by omega)
  have b3 : 0 ≤ (10000 - c) * (1000000000 + x) := Int.mul_nonneg (by omega) (by omega)
  have b4 : 0 ≤ (10000 + c) * (1000000000 - x) := Int.mul_nonneg (by omega) (by omega)
  omega
theorem cross_range (a x y : Int) : -20000000000000 ≤ cross a x y ∧ cross a x y ≤ 20000000000000 := by
  unfold cross
  split
  · rename_i h
    have := mul_le (cos_range a) h.2
    have := mul_le (sin_range a) h.1
    omega
  · omega
theorem dot_range (a x y : Int) (hx : Fits x) (hy : Fits y) : -20000000000000 ≤ dot a x y ∧ dot a x y ≤ 20000000000000 := by
  unfold dot
  have := mul_le (cos_range a) hx
  have := mul_le (sin_range a) hy
  omega
end An
end Go.Proofs.Ytjmmkphdomiohaa
