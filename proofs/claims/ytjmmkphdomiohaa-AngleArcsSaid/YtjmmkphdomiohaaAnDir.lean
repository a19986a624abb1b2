/- The direction of an angle lies on the positive side of another one exactly if it is clockwise of it, for the ends of the arcs that the source of numbers gives. Plain mathematics. -/
import Derived.Test.YtjmmkphdomiohaaAnMath
namespace Go.Proofs.Ytjmmkphdomiohaa
namespace An
def archN (a : Nat) : Nat := (80000 * (a * (1800 - a)) + (4050000 - a * (1800 - a))) / (2 * (4050000 - a * (1800 - a)))
def sinI (p : Nat) : Int := if p ≤ 1800 then (archN p : Int) else -(archN (p - 1800) : Int)
def cosI (p : Nat) : Int := if p + 900 < 3600 then sinI (p + 900) else sinI (p + 900 - 3600)
theorem arch_nat (a : Nat) (h : a ≤ 1800) : arch (a : Int) = (archN a : Int) := by
  have e : (a : Int) * (1800 - (a : Int)) = ((a * (1800 - a) : Nat) : Int) := by
    rw [Int.natCast_mul, Int.natCast_sub h]; rfl
  obtain ⟨p0, p1⟩ := prod_range (a : Int) (by omega) (by omega)
  unfold arch archN
  rw [e] at p0 p1 ⊢
  generalize a * (1800 - a) = p at *
  have hb := Ar.good (n := 40000 * (p : Int)) (d := 4050000 - (p : Int)) ⟨by omega, by omega, by omega, by omega⟩
  rw [Ar.half, if_neg hb, Int.natCast_ediv]
  congr 1 <;> omega
theorem sin_nat (p : Nat) (h : p < 3600) : sin (p : Int) = sinI p := by
  have n : norm (p : Int) = p := norm_self (by omega) (by omega)
  unfold sin sinI
  rw [n]
  by_cases c : p ≤ 1800
  · rw [if_neg (by omega), if_pos c, arch_nat p c]
  · rw [if_pos (by omega), if_neg c, show (p : Int) - 1800 = ((p - 1800 : Nat) : Int) from by omega, arch_nat _ (by omega)]
theorem cos_nat (p : Nat) (h : p < 3600) : cos (p : Int) = cosI p := by
  have n : norm (p : Int) = p := norm_self (by omega) (by omega)
  unfold cos cosI
  rw [n]
  by_cases c : p + 900 < 3600
  · rw [if_pos c, ← sin_nat _ c]; rfl
  · rw [if_neg c, ← sin_nat _ (by omega)]
    exact sin_of (by unfold norm; omega)
/-- at the direction g, what the sides of the direction of p say -/
def side (cg sg : Int) (g p : Nat) : Bool :=
  let c := cosI p
  let s := sinI p
  let x := cg * s - sg * c
  let y := cg * c + sg * s
  let d := (p + 3600 - g) % 3600
  if d = 0 then decide (x = 0) && decide (0 < y)
  else if d < 1800 then decide (0 < x)
  else if d = 1800 then decide (x = 0) && decide (y < 0)
  else decide (x < 0)
def ends : List Nat := [0, 100, 200, 300, 450, 550, 750, 799, 800, 900, 1100, 1350, 1450, 1650, 1699, 1700, 1799, 1800, 1900, 2100, 2249, 2250, 2599, 2600, 2700, 2900, 3149, 3500, 3599]
theorem all_sides : ends.all (fun g => (List.range 3600).all (side (cosI g) (sinI g) g)) = true := by decide +kernel
end An
end Go.Proofs.Ytjmmkphdomiohaa
