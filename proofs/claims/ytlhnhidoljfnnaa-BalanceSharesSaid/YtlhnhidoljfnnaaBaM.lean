/- A total that is divided in proportion, what rounding leaves by the greatest remainders: plain mathematics. -/
import Derived.Test.YtlhnhidoljfnnaaShM
set_option linter.unusedVariables false
namespace Go.Proofs.Ytlhnhidoljfnnaa
namespace Sh
/-- u comes before v: a greater remainder, or the same and a lesser number -/
def Ord (p : Int → Int) (u v : Int) : Prop := p v < p u ∨ (p v = p u ∧ u < v)
theorem Ord.irrefl {p : Int → Int} {u : Int} : ¬ Ord p u u := fun h => by rcases h with h | ⟨_, h⟩ <;> omega
theorem Ord.asymm {p : Int → Int} {u v : Int} (h : Ord p u v) : ¬ Ord p v u := fun k => by
  rcases h with h | ⟨h, h'⟩ <;> rcases k with k | ⟨k, k'⟩ <;> omega
theorem Ord.trans {p : Int → Int} {u v w : Int} (h : Ord p u v) (k : Ord p v w) : Ord p u w := by
  unfold Ord at *
  omega
/-- the shares: proportions rounded down, and those with the greatest remainders one more -/
def Split (n : Nat) (r : Int → Int) (t : Int) (x : Int → Int) : Prop :=
  (∀ i : Int, 0 ≤ i → i < n → x i = t * r i / sumf r n ∨ x i = t * r i / sumf r n + 1) ∧ sumf x n = t ∧
  ∀ i j : Int, 0 ≤ i → i < n → 0 ≤ j → j < n → x i = t * r i / sumf r n + 1 → x j = t * r j / sumf r n → Ord (fun i => t * r i % sumf r n) i j
theorem split_unique {n : Nat} {r : Int → Int} {t : Int} {x y : Int → Int} (h : Split n r t x) (k : Split n r t y) : ∀ i : Int, 0 ≤ i → i < n → x i = y i := by
  have le : ∀ x y : Int → Int, Split n r t x → Split n r t y → ∀ i : Int, 0 ≤ i → i < n → x i ≤ y i := fun x y h k i i0 i1 => by
    apply Int.not_lt.1
    intro lt
    have ex : ∃ j : Int, 0 ≤ j ∧ j < n ∧ x j < y j := by
      apply Classical.byContradiction
      intro no
      have := sumf_eq (f := y) (g := x) (n := n) (fun j a b => Int.not_lt.1 fun q => no ⟨j, a, b, q⟩) (by rw [h.2.1, k.2.1]; exact Int.le_refl _) i i0 i1
      omega
    obtain ⟨j, j0, j1, lj⟩ := ex
    have a1 := h.1 i i0 i1
    have a2 := k.1 i i0 i1
    have a3 := h.1 j j0 j1
    have a4 := k.1 j j0 j1
    exact (h.2.2 i j i0 i1 j0 j1 (by omega) (by omega)).asymm (k.2.2 j i j0 j1 i0 i1 (by omega) (by omega))
  exact fun i a b => Int.le_antisymm (le x y h k i a b) (le y x k h i a b)
theorem split_scale {n : Nat} {r r' : Int → Int} {t k : Int} {x : Int → Int} (hk : 1 ≤ k) (hr : ∀ i : Int, 0 ≤ i → i < n → r' i = k * r i) (h : Split n r' t x) : Split n r t x := by
  have hs : sumf r' n = k * sumf r n := by
    have : ∀ m : Nat, m ≤ n → sumf r' m = k * sumf r m := by
      intro m
      induction m with
      | zero => intro _; simp [sumf]
      | succ m ih =>
        intro hm
        have a := ih (by omega)
        have b := hr m (by omega) (by omega)
        simp only [sumf]
        grind
    exact this n (by omega)
  have q : ∀ i : Int, 0 ≤ i → i < n → t * r' i / sumf r' n = t * r i / sumf r n := fun i a b => by
    rw [hr i a b, hs, show t * (k * r i) = k * (t * r i) by grind]
    exact Int.mul_ediv_mul_of_pos _ _ (by omega)
  have m : ∀ i : Int, 0 ≤ i → i < n → t * r' i % sumf r' n = k * (t * r i % sumf r n) := fun i a b => by
    rw [hr i a b, hs, show t * (k * r i) = k * (t * r i) by grind]
    exact Int.mul_emod_mul_of_pos _ _ (by omega)
  refine ⟨fun i a b => by rw [← q i a b]; exact h.1 i a b, h.2.1, fun i j a b c d e f => ?_⟩
  have := h.2.2 i j a b c d (by rw [q i a b]; exact e) (by rw [q j c d]; exact f)
  unfold Ord at this ⊢
  simp only [m i a b, m j c d] at this
  rcases this with h1 | ⟨h1, h2⟩
  · exact .inl (Int.lt_of_mul_lt_mul_left h1 (by omega))
  · exact .inr ⟨Int.eq_of_mul_eq_mul_left (by omega) h1, h2⟩
theorem sumf_mulc {f g : Int → Int} {k : Int} {n : Nat} (h : ∀ i : Int, 0 ≤ i → i < n → g i = k * f i) : sumf g n = k * sumf f n := by
  induction n with
  | zero => simp [sumf]
  | succ n ih =>
    have a := ih fun i h0 h1 => h i h0 (by omega)
    have b := h n (by omega) (by omega)
    simp only [sumf]
    grind
/-- the proportions rounded down, and what is left -/
theorem parts {n : Nat} {r : Int → Int} {t : Int} : sumf (fun i => t * r i % sumf r n) n = sumf r n * (t - sumf (fun i => t * r i / sumf r n) n) := by
  have a := sumf_add (n := n) (f := fun i => sumf r n * (t * r i / sumf r n)) (g := fun i => t * r i % sumf r n) (h := fun i => t * r i) fun i _ _ => (Int.mul_ediv_add_emod _ _).symm
  have b := sumf_mulc (n := n) (f := r) (g := fun i => t * r i) (k := t) fun i _ _ => rfl
  have c := sumf_mulc (n := n) (f := fun i => t * r i / sumf r n) (g := fun i => sumf r n * (t * r i / sumf r n)) (k := sumf r n) fun i _ _ => rfl
  rw [b, c] at a
  rw [Int.mul_sub, Int.mul_comm (sumf r n) t]
  omega
theorem left_rng {n : Nat} {r : Int → Int} {t : Int} (hw : 1 ≤ sumf r n) : 0 ≤ t - sumf (fun i => t * r i / sumf r n) n ∧ t - sumf (fun i => t * r i / sumf r n) n ≤ n := by
  have p := parts (n := n) (r := r) (t := t)
  have b := sumf_bound (n := n) (f := fun i => t * r i % sumf r n) (a := 0) (b := sumf r n) fun i _ _ => ⟨Int.emod_nonneg _ (by omega), Int.le_of_lt (Int.emod_lt_of_pos _ (by omega))⟩
  rw [p] at b
  generalize t - sumf (fun i => t * r i / sumf r n) n = k at *
  generalize sumf r n = w at *
  constructor
  · apply Int.not_lt.1
    intro h
    have := Int.mul_le_mul_of_nonneg_left (show k ≤ -1 by omega) (show 0 ≤ w by omega)
    omega
  · apply Int.not_lt.1
    intro h
    have := Int.mul_le_mul_of_nonneg_left (show (n : Int) + 1 ≤ k by omega) (show 0 ≤ w by omega)
    rw [Int.mul_add] at this
    omega
/-- who has one more has a remainder -/
theorem split_rest {n : Nat} {r : Int → Int} {t : Int} {x : Int → Int} (hw : 1 ≤ sumf r n) (h : Split n r t x) : ∀ i : Int, 0 ≤ i → i < n → x i = t * r i / sumf r n + 1 → 0 < t * r i % sumf r n := by
  intro i i0 i1 hi
  have nn : ∀ j : Int, 0 ≤ t * r j % sumf r n ∧ t * r j % sumf r n < sumf r n := fun j => ⟨Int.emod_nonneg _ (by omega), Int.emod_lt_of_pos _ (by omega)⟩
  apply Classical.byContradiction
  intro no
  have z : t * r i % sumf r n = 0 := by have := nn i; omega
  have un : ∀ j : Int, 0 ≤ j → j < n → x j = t * r j / sumf r n → t * r j % sumf r n = 0 := fun j j0 j1 hj => by
    have := h.2.2 i j i0 i1 j0 j1 hi hj
    have := nn j
    unfold Ord at *
    simp only at *
    omega
  have le : sumf (fun j => t * r j % sumf r n) n ≤ sumf (fun j => (sumf r n - 1) * (x j - t * r j / sumf r n)) n := sumf_le fun j j0 j1 => by
    rcases h.1 j j0 j1 with e | e
    · rw [un j j0 j1 e, e]; simp
    · rw [e, show t * r j / sumf r n + 1 - t * r j / sumf r n = 1 by omega]
      have := nn j
      omega
  have e1 := sumf_sub (n := n) (f := fun j => t * r j / sumf r n) (g := x) (h := fun j => (sumf r n - 1) * (x j - t * r j / sumf r n)) (q := sumf r n - 1) fun j _ _ => rfl
  rw [e1, parts, h.2.1] at le
  have lt : sumf (fun j => t * r j / sumf r n) n < t := by
    have hx := h.2.1
    have pt : ∀ j : Int, 0 ≤ j → j < n → (fun j => t * r j / sumf r n) j ≤ x j := fun j j0 j1 => by rcases h.1 j j0 j1 with e | e <;> simp only [e] <;> omega
    have a := sumf_le pt
    apply Classical.byContradiction
    intro q
    have := sumf_eq pt (by omega) i i0 i1
    omega
  have kp : 0 < t - sumf (fun j => t * r j / sumf r n) n := by omega
  generalize t - sumf (fun j => t * r j / sumf r n) n = k at *
  rw [Int.sub_mul] at le
  omega
end Sh
end Go.Proofs.Ytlhnhidoljfnnaa
