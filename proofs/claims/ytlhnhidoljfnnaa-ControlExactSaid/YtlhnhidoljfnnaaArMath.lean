/- Plain facts on whole numbers: rounded division, and roots. It imports nothing of the program. -/
import Derived.Lib.Hide
namespace Go.Proofs.Ytlhnhidoljfnnaa
namespace Ar
def Bad (n d : Int) : Prop := n < -1000000000000000000 ∨ 1000000000000000000 < n ∨ d < 1 ∨ 1000000000 < d
instance (n d : Int) : Decidable (Bad n d) := by unfold Bad; infer_instance
def err (n d : Int) : Int := if Bad n d then 1 else 0
def floor (n d : Int) : Int := if Bad n d then 0 else n / d
def half (n d : Int) : Int := if Bad n d then 0 else (2 * n + d) / (2 * d)
def up (n d : Int) : Int := if Bad n d then 0 else -((-n) / d)
def mod (n d : Int) : Int := if Bad n d then 0 else n % d
def clamp (x low high : Int) : Int := max low (min x high)
def Far (x target step : Int) : Prop := step ≤ 0 ∨ 1000000000 < step ∨ x < -1000000000 ∨ 1000000000 < x ∨ target < -1000000000 ∨ 1000000000 < target
instance (x t s : Int) : Decidable (Far x t s) := by unfold Far; infer_instance
def near (x target step : Int) : Int := if Far x target step then x else clamp target (x - step) (x + step)

theorem tdiv_facts (n d : Int) (h1 : -1000000000000000000 ≤ n) (h2 : n ≤ 1000000000000000000) (h3 : 1 ≤ d) :
    -1000000000000000000 ≤ n.tdiv d ∧ n.tdiv d ≤ 1000000000000000000 ∧ -d < n.tmod d ∧ n.tmod d < d ∧ n.tdiv d * d + n.tmod d = n := by
  have e := Int.tdiv_mul_add_tmod n d
  have hd : 0 < d := by omega
  have k1 := Int.tmod_lt_of_pos n hd
  have k2 := Int.lt_tmod_of_pos n hd
  refine ⟨?_, ?_, k2, k1, e⟩
  · rcases (by omega : n < 0 ∨ 0 ≤ n) with h | h
    · have : (-n).tdiv d ≤ -n := Int.tdiv_le_self _ (by omega)
      rw [Int.neg_tdiv] at this; omega
    · have := Int.tdiv_nonneg h (by omega : 0 ≤ d); omega
  · rcases (by omega : n < 0 ∨ 0 ≤ n) with h | h
    · have : 0 ≤ (-n).tdiv d := Int.tdiv_nonneg (by omega) (by omega)
      rw [Int.neg_tdiv] at this; omega
    · have : n.tdiv d ≤ n := Int.tdiv_le_self _ h
      omega
theorem div_of {n d q r : Int} (hd : 1 ≤ d) (h : q * d + r = n) (h0 : 0 ≤ r) (h1 : r < d) : n / d = q ∧ n % d = r := by
  have hd' : 0 < d := by omega
  have e : n = r + q * d := by omega
  subst e
  rw [Int.add_mul_ediv_right _ _ (by omega), Int.add_mul_emod_self_right, Int.ediv_eq_zero_of_lt h0 h1, Int.emod_eq_of_lt h0 h1]
  omega
theorem half_of {n d q r : Int} (hd : 1 ≤ d) (h : q * d + r = n) (h0 : 0 ≤ r) (h1 : r < d) : (2 * n + d) / (2 * d) = if d ≤ 2 * r then q + 1 else q := by
  split
  · refine (div_of (r := 2 * r - d) (by omega) ?_ (by omega) (by omega)).1
    subst h; simp only [Int.mul_add, Int.add_mul, Int.one_mul]; have : q * (2 * d) = 2 * (q * d) := by rw [Int.mul_left_comm]
    omega
  · refine (div_of (r := 2 * r + d) (by omega) ?_ (by omega) (by omega)).1
    subst h; simp only [Int.mul_add]; have : q * (2 * d) = 2 * (q * d) := by rw [Int.mul_left_comm]
    omega
theorem up_of {n d q r : Int} (hd : 1 ≤ d) (h : q * d + r = n) (h0 : 0 ≤ r) (h1 : r < d) : -((-n) / d) = if 0 < r then q + 1 else q := by
  split
  · rw [(div_of (n := -n) (q := -q - 1) (r := d - r) hd ?_ (by omega) (by omega)).1]; omega
    subst h; simp only [Int.sub_mul, Int.neg_mul, Int.one_mul]; omega
  · rw [(div_of (n := -n) (q := -q) (r := 0) hd ?_ (by omega) (by omega)).1]; omega
    subst h; simp only [Int.neg_mul]; omega
theorem cases (n d : Int) : Bad n d ∨ (-1000000000000000000 ≤ n ∧ n ≤ 1000000000000000000 ∧ 1 ≤ d ∧ d ≤ 1000000000) := by unfold Bad; omega
theorem good {n d : Int} (h : -1000000000000000000 ≤ n ∧ n ≤ 1000000000000000000 ∧ 1 ≤ d ∧ d ≤ 1000000000) : ¬ Bad n d := by unfold Bad; omega

/-- what a division gives, out of the quotient and the rest that Go's division gives -/
theorem out_neg {n d : Int} (hg : -1000000000000000000 ≤ n ∧ n ≤ 1000000000000000000 ∧ 1 ≤ d ∧ d ≤ 1000000000) (h : n.tmod d < 0) :
    floor n d = n.tdiv d - 1 ∧ mod n d = n.tmod d + d ∧ half n d = (if d ≤ 2 * (n.tmod d + d) then n.tdiv d else n.tdiv d - 1) ∧ up n d = n.tdiv d ∧ err n d = 0 := by
  obtain ⟨h1, h2, h3, h4⟩ := hg
  have hb := good ⟨h1, h2, h3, h4⟩
  obtain ⟨t1, t2, t3, t4, t5⟩ := tdiv_facts n d h1 h2 h3
  have e : (n.tdiv d - 1) * d + (n.tmod d + d) = n := by rw [Int.sub_mul]; omega
  have a := div_of h3 e (by omega) (by omega)
  have b := half_of h3 e (by omega) (by omega)
  have c := up_of h3 e (by omega) (by omega)
  simp only [floor, mod, half, up, err, if_neg hb, a, b, c]
  refine ⟨trivial, trivial, ?_, ?_, trivial⟩
  · split <;> omega
  · split <;> omega
theorem out_pos {n d : Int} (hg : -1000000000000000000 ≤ n ∧ n ≤ 1000000000000000000 ∧ 1 ≤ d ∧ d ≤ 1000000000) (h : 0 ≤ n.tmod d) :
    floor n d = n.tdiv d ∧ mod n d = n.tmod d ∧ half n d = (if d ≤ 2 * n.tmod d then n.tdiv d + 1 else n.tdiv d) ∧ up n d = (if 0 < n.tmod d then n.tdiv d + 1 else n.tdiv d) ∧ err n d = 0 := by
  obtain ⟨h1, h2, h3, h4⟩ := hg
  have hb := good ⟨h1, h2, h3, h4⟩
  obtain ⟨t1, t2, t3, t4, t5⟩ := tdiv_facts n d h1 h2 h3
  have a := div_of h3 t5 h t4
  have b := half_of h3 t5 h t4
  have c := up_of h3 t5 h t4
  simp only [floor, mod, half, up, err, if_neg hb, a, b, c]
  exact ⟨trivial, trivial, trivial, trivial, trivial⟩
theorem out_bad {n d : Int} (h : Bad n d) : floor n d = 0 ∧ mod n d = 0 ∧ half n d = 0 ∧ up n d = 0 ∧ err n d = 1 := by
  simp only [floor, mod, half, up, err, if_pos h]; exact ⟨trivial, trivial, trivial, trivial, trivial⟩

/-- the greatest number whose square is at most n -/
def IsRoot (n r : Int) : Prop := 0 ≤ r ∧ r * r ≤ n ∧ n < (r + 1) * (r + 1)
theorem sq_le {a b : Int} (h0 : 0 ≤ a) (h : a ≤ b) : a * a ≤ b * b := Int.mul_le_mul h h h0 (by omega)
theorem root_unique {n r s : Int} (h : IsRoot n r) (k : IsRoot n s) : r = s := by
  obtain ⟨h0, h1, h2⟩ := h
  obtain ⟨k0, k1, k2⟩ := k
  rcases (by omega : r < s ∨ s < r ∨ r = s) with c | c | c
  · have := sq_le (a := r + 1) (b := s) (by omega) (by omega); omega
  · have := sq_le (a := s + 1) (b := r) (by omega) (by omega); omega
  · exact c
theorem root_any (n : Nat) : ∃ r, IsRoot (n : Int) r := by
  induction n with
  | zero => exact ⟨0, by unfold IsRoot; omega⟩
  | succ n ih =>
    obtain ⟨r, h0, h1, h2⟩ := ih
    by_cases h : (n : Int) + 1 < (r + 1) * (r + 1)
    · exact ⟨r, h0, by omega, by simpa using h⟩
    · refine ⟨r + 1, by omega, by simp; omega, ?_⟩
      have : (r + 1) * (r + 1) < (r + 1 + 1) * (r + 1 + 1) := by
        have e : (r + 1 + 1) * (r + 1 + 1) = (r + 1) * (r + 1) + 2 * (r + 1) + 1 := by
          rw [Int.add_mul (r + 1) 1, Int.mul_add (r + 1) (r + 1) 1]; omega
        omega
      simp; omega
noncomputable def isqrt (n : Int) : Int := Classical.choose (root_any n.toNat)
theorem isqrt_is {n : Int} (h : 0 ≤ n) : IsRoot n (isqrt n) := by
  obtain ⟨a, b, c⟩ : IsRoot (n.toNat : Int) (isqrt n) := Classical.choose_spec (root_any n.toNat)
  have e : ((n.toNat : Nat) : Int) = n := Int.toNat_of_nonneg h
  generalize isqrt n = r at *
  exact ⟨a, by omega, by omega⟩
theorem isqrt_of {n r : Int} (h : 0 ≤ n) (k : IsRoot n r) : isqrt n = r := root_unique (isqrt_is h) k
def RBad (n : Int) : Prop := n < 0 ∨ 1000000000000000000 < n
instance (n : Int) : Decidable (RBad n) := by unfold RBad; infer_instance
noncomputable def root (n : Int) : Int := if RBad n then 0 else isqrt n
def rerr (n : Int) : Int := if RBad n then 1 else 0
theorem root_good {n r : Int} (h0 : 0 ≤ n) (h1 : n ≤ 1000000000000000000) (h : IsRoot n r) : root n = r ∧ rerr n = 0 := by
  have hb : ¬ RBad n := by unfold RBad; omega
  simp only [root, rerr, if_neg hb]
  exact ⟨isqrt_of h0 h, trivial⟩
theorem root_bad {n : Int} (h : RBad n) : root n = 0 ∧ rerr n = 1 := by
  simp only [root, rerr, if_pos h]; exact ⟨trivial, trivial⟩
end Ar
end Go.Proofs.Ytlhnhidoljfnnaa
