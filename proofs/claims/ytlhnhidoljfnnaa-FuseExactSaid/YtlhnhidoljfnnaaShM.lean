/- Numbers that share a sum at the least cost: plain mathematics, no program. -/
set_option linter.unusedVariables false
namespace Go.Proofs.Ytlhnhidoljfnnaa
namespace Sh
def sumf (f : Int → Int) : Nat → Int
  | 0 => 0
  | n + 1 => sumf f n + f n
theorem sumf_le {f g : Int → Int} {n : Nat} (h : ∀ i : Int, 0 ≤ i → i < n → f i ≤ g i) : sumf f n ≤ sumf g n := by
  induction n with
  | zero => exact Int.le_refl _
  | succ n ih =>
    have a := ih fun i h0 h1 => h i h0 (by omega)
    have b := h n (by omega) (by omega)
    simp only [sumf]
    omega
theorem sumf_congr {f g : Int → Int} {n : Nat} (h : ∀ i : Int, 0 ≤ i → i < n → f i = g i) : sumf f n = sumf g n :=
  Int.le_antisymm (sumf_le fun i a b => Int.le_of_eq (h i a b)) (sumf_le fun i a b => Int.le_of_eq (h i a b).symm)
theorem sumf_eq {f g : Int → Int} {n : Nat} (h : ∀ i : Int, 0 ≤ i → i < n → f i ≤ g i) (hs : sumf g n ≤ sumf f n) : ∀ i : Int, 0 ≤ i → i < n → f i = g i := by
  induction n with
  | zero => intro i h0 h1; omega
  | succ n ih =>
    have a := sumf_le (n := n) fun i h0 h1 => h i h0 (by omega)
    have b := h n (by omega) (by omega)
    simp only [sumf] at hs
    intro i h0 h1
    by_cases e : i = n
    · subst e; omega
    · exact ih (fun i h0 h1 => h i h0 (by omega)) (by omega) i h0 (by omega)
theorem sumf_sub {f g h : Int → Int} {q : Int} {n : Nat} (hh : ∀ i : Int, 0 ≤ i → i < n → h i = q * (g i - f i)) : sumf h n = q * (sumf g n - sumf f n) := by
  induction n with
  | zero => simp [sumf]
  | succ n ih =>
    have a := ih fun i h0 h1 => hh i h0 (by omega)
    have b := hh n (by omega) (by omega)
    simp only [sumf]
    grind
theorem sumf_add {f g h : Int → Int} {n : Nat} (hh : ∀ i : Int, 0 ≤ i → i < n → h i = f i + g i) : sumf h n = sumf f n + sumf g n := by
  induction n with
  | zero => simp [sumf]
  | succ n ih =>
    have a := ih fun i h0 h1 => hh i h0 (by omega)
    have b := hh n (by omega) (by omega)
    simp only [sumf]
    omega
theorem sumf_one {f g : Int → Int} {n : Nat} {k d : Int} (h0 : 0 ≤ k) (h1 : k < n) (hk : g k = f k + d) (ho : ∀ i : Int, 0 ≤ i → i < n → i ≠ k → g i = f i) : sumf g n = sumf f n + d := by
  induction n with
  | zero => omega
  | succ n ih =>
    simp only [sumf]
    by_cases e : k = n
    · subst e
      rw [sumf_congr (f := g) (g := f) fun i a b => ho i a (by omega) (by omega)]
      omega
    · have a := ih (by omega) fun i a b c => ho i a (by omega) c
      have b := ho n (by omega) (by omega) (by omega)
      omega
theorem sumf_bound {f : Int → Int} {a b : Int} {n : Nat} (h : ∀ i : Int, 0 ≤ i → i < n → a ≤ f i ∧ f i ≤ b) : a * n ≤ sumf f n ∧ sumf f n ≤ b * n := by
  induction n with
  | zero => simp [sumf]
  | succ n ih =>
    have x := ih fun i h0 h1 => h i h0 (by omega)
    have y := h n (by omega) (by omega)
    simp only [sumf]
    have e : ((n + 1 : Nat) : Int) = n + 1 := by omega
    rw [e]
    grind
/-- the numbers are those that the cheapest steps give; of steps that cost the same, the first ones -/
def Lex (n : Nat) (lo hi c x : Int → Int) : Prop := ∀ i j : Int, 0 ≤ i → i < n → 0 ≤ j → j < n → i ≠ j → lo i < x i → x j < hi j → c i * (2 * x i - 1) < c j * (2 * x j + 1) ∨ (c i * (2 * x i - 1) = c j * (2 * x j + 1) ∧ i < j)
/-- no move makes the cost less -/
def NoMove (n : Nat) (lo hi c x : Int → Int) : Prop := ∀ i j : Int, 0 ≤ i → i < n → 0 ≤ j → j < n → i ≠ j → lo i < x i → x j < hi j → c i * (2 * x i - 1) ≤ c j * (2 * x j + 1)
def Rng (n : Nat) (lo hi x : Int → Int) : Prop := ∀ i : Int, 0 ≤ i → i < n → lo i ≤ x i ∧ x i ≤ hi i
theorem Lex.noMove {n lo hi c x} (h : Lex n lo hi c x) : NoMove n lo hi c x := fun i j a b d e f g k => by
  rcases h i j a b d e f g k with h | ⟨h, _⟩ <;> omega
theorem mul_step {c a b : Int} (hc : 1 ≤ c) (h : a ≤ b) : c * a ≤ c * b := Int.mul_le_mul_of_nonneg_left h (by omega)
theorem lex_mono {n : Nat} {lo hi c x y : Int → Int} (hc : ∀ i : Int, 0 ≤ i → i < n → 1 ≤ c i) (rx : Rng n lo hi x) (ry : Rng n lo hi y) (Lx : Lex n lo hi c x) (Ly : Lex n lo hi c y) (hs : sumf x n ≤ sumf y n) : ∀ i : Int, 0 ≤ i → i < n → x i ≤ y i := by
  intro j j0 j1
  apply Int.not_lt.1
  intro hj
  have ex : ∃ i : Int, 0 ≤ i ∧ i < n ∧ x i < y i := by
    apply Classical.byContradiction
    intro no
    have le : ∀ i : Int, 0 ≤ i → i < n → y i ≤ x i := fun i a b => Int.not_lt.1 fun h => no ⟨i, a, b, h⟩
    have := sumf_eq le hs j j0 j1
    omega
  obtain ⟨i, i0, i1, hi'⟩ := ex
  have rxi := rx i i0 i1
  have ryi := ry i i0 i1
  have rxj := rx j j0 j1
  have ryj := ry j j0 j1
  have ne : i ≠ j := by rintro rfl; omega
  have a := Lx j i j0 j1 i0 i1 (Ne.symm ne) (by omega) (by omega)
  have b := Ly i j i0 i1 j0 j1 ne (by omega) (by omega)
  have s1 := mul_step (hc j j0 j1) (show 2 * y j + 1 ≤ 2 * x j - 1 by omega)
  have s2 := mul_step (hc i i0 i1) (show 2 * x i + 1 ≤ 2 * y i - 1 by omega)
  omega
theorem lex_unique {n : Nat} {lo hi c x y : Int → Int} (hc : ∀ i : Int, 0 ≤ i → i < n → 1 ≤ c i) (rx : Rng n lo hi x) (ry : Rng n lo hi y) (Lx : Lex n lo hi c x) (Ly : Lex n lo hi c y) (hs : sumf x n = sumf y n) : ∀ i : Int, 0 ≤ i → i < n → x i = y i := fun i a b =>
  Int.le_antisymm (lex_mono hc rx ry Lx Ly (by omega) i a b) (lex_mono hc ry rx Ly Lx (by omega) i a b)
theorem lex_scale {n : Nat} {lo hi c x : Int → Int} {k : Int} (hk : 1 ≤ k) (h : Lex n lo hi (fun i => k * c i) x) : Lex n lo hi c x := fun i j a b d e f g l => by
  have := h i j a b d e f g l
  simp only [Int.mul_assoc] at this
  rcases this with h | ⟨h, h2⟩
  · exact .inl (Int.lt_of_mul_lt_mul_left h (by omega))
  · exact .inr ⟨Int.eq_of_mul_eq_mul_left (by omega) h, h2⟩
theorem max_of {P : Int → Prop} {f : Int → Int} (n : Nat) : (∀ i : Int, 0 ≤ i → i < n → ¬ P i) ∨ ∃ k : Int, 0 ≤ k ∧ k < n ∧ P k ∧ ∀ i : Int, 0 ≤ i → i < n → P i → f i ≤ f k := by
  induction n with
  | zero => exact .inl fun i a b => by omega
  | succ n ih =>
    rcases ih with h | ⟨k, a, b, c, d⟩
    · by_cases p : P n
      · refine .inr ⟨n, by omega, by omega, p, fun i i0 i1 pi => ?_⟩
        by_cases e : i = n
        · subst e; exact Int.le_refl _
        · exact absurd pi (h i i0 (by omega))
      · refine .inl fun i i0 i1 => ?_
        by_cases e : i = n
        · subst e; exact p
        · exact h i i0 (by omega)
    · by_cases p : P n
      · by_cases l : f n ≤ f k
        · refine .inr ⟨k, a, by omega, c, fun i i0 i1 pi => ?_⟩
          by_cases e : i = n
          · subst e; exact l
          · exact d i i0 (by omega) pi
        · refine .inr ⟨n, by omega, by omega, p, fun i i0 i1 pi => ?_⟩
          by_cases e : i = n
          · subst e; exact Int.le_refl _
          · have := d i i0 (by omega) pi; omega
      · refine .inr ⟨k, a, by omega, c, fun i i0 i1 pi => ?_⟩
        by_cases e : i = n
        · subst e; exact absurd pi p
        · exact d i i0 (by omega) pi
theorem low_of (f : Int → Int) (n : Nat) : ∃ q : Int, ∀ i : Int, 0 ≤ i → i < n → q ≤ f i := by
  induction n with
  | zero => exact ⟨0, fun i a b => by omega⟩
  | succ n ih =>
    obtain ⟨q, h⟩ := ih
    refine ⟨min q (f n), fun i a b => ?_⟩
    by_cases e : i = n
    · subst e; omega
    · have := h i a (by omega); omega
theorem price_of {n : Nat} {lo hi c x : Int → Int} (hc : ∀ i : Int, 0 ≤ i → i < n → 1 ≤ c i) (h : NoMove n lo hi c x) : ∃ q : Int, ∀ i : Int, 0 ≤ i → i < n → (lo i < x i → c i * (2 * x i - 1) ≤ q) ∧ (x i < hi i → q ≤ c i * (2 * x i + 1)) := by
  rcases max_of (P := fun i => lo i < x i) (f := fun i => c i * (2 * x i - 1)) n with no | ⟨k, k0, k1, kp, km⟩
  · obtain ⟨q, hq⟩ := low_of (fun i => c i * (2 * x i + 1)) n
    exact ⟨q, fun i a b => ⟨fun l => absurd l (no i a b), fun _ => hq i a b⟩⟩
  · refine ⟨c k * (2 * x k - 1), fun i a b => ⟨fun l => km i a b l, fun l => ?_⟩⟩
    by_cases e : k = i
    · subst e; exact mul_step (hc k k0 k1) (by omega)
    · exact h k i k0 k1 a b e kp l
theorem price_least {n : Nat} {lo hi c x y : Int → Int} {q : Int} (hc : ∀ i : Int, 0 ≤ i → i < n → 1 ≤ c i) (ry : Rng n lo hi y) (hq : ∀ i : Int, 0 ≤ i → i < n → (lo i < x i → c i * (2 * x i - 1) ≤ q) ∧ (x i < hi i → q ≤ c i * (2 * x i + 1))) (hs : sumf x n = sumf y n) : sumf (fun i => c i * x i * x i) n ≤ sumf (fun i => c i * y i * y i) n := by
  have a : sumf (fun i => c i * x i * x i + q * (y i - x i)) n ≤ sumf (fun i => c i * y i * y i) n := by
    refine sumf_le fun i i0 i1 => ?_
    obtain ⟨p1, p2⟩ := hq i i0 i1
    have ci := hc i i0 i1
    have rr := ry i i0 i1
    generalize x i = u at *
    generalize y i = v at *
    generalize c i = d at *
    rcases Int.lt_trichotomy u v with h | h | h
    · have q1 := p2 (by omega)
      have e1 := Int.mul_le_mul_of_nonneg_right q1 (show 0 ≤ v - u by omega)
      have e2 := mul_step ci (Int.mul_le_mul_of_nonneg_left (show 2 * u + 1 ≤ v + u by omega) (show 0 ≤ v - u by omega))
      grind
    · subst h; simp
    · have q1 := p1 (by omega)
      have e1 := Int.mul_le_mul_of_nonneg_right q1 (show 0 ≤ u - v by omega)
      have e2 := mul_step ci (Int.mul_le_mul_of_nonneg_left (show v + u ≤ 2 * u - 1 by omega) (show 0 ≤ u - v by omega))
      grind
  have b := sumf_add (n := n) (f := fun i => c i * x i * x i) (g := fun i => q * (y i - x i)) (h := fun i => c i * x i * x i + q * (y i - x i)) fun i _ _ => rfl
  have d := sumf_sub (n := n) (f := x) (g := y) (h := fun i => q * (y i - x i)) (q := q) fun i _ _ => rfl
  have e : q * (sumf y n - sumf x n) = 0 := by rw [hs]; simp
  omega
theorem noMove_least {n : Nat} {lo hi c x y : Int → Int} (hc : ∀ i : Int, 0 ≤ i → i < n → 1 ≤ c i) (ry : Rng n lo hi y) (h : NoMove n lo hi c x) (hs : sumf x n = sumf y n) : sumf (fun i => c i * x i * x i) n ≤ sumf (fun i => c i * y i * y i) n := by
  obtain ⟨q, hq⟩ := price_of hc h
  exact price_least hc ry hq hs
/-- the number of a variable that takes all steps that cost at most p -/
def up (lo hi c p : Int) : Int := max lo (min ((p / c + 1) / 2) hi)
theorem up_spec {lo hi c p : Int} (hc : 1 ≤ c) (hl : lo ≤ hi) : (lo ≤ up lo hi c p ∧ up lo hi c p ≤ hi) ∧ (lo < up lo hi c p → c * (2 * up lo hi c p - 1) ≤ p) ∧ (up lo hi c p < hi → p < c * (2 * up lo hi c p + 1)) := by
  have e := Int.mul_ediv_add_emod p c
  have r0 := Int.emod_nonneg p (show c ≠ 0 by omega)
  have r1 := Int.emod_lt_of_pos p (show 0 < c by omega)
  unfold up
  generalize hu : max lo (min ((p / c + 1) / 2) hi) = u
  generalize hs : p / c = s at *
  generalize p % c = r at *
  refine ⟨by omega, fun h => ?_, fun h => ?_⟩
  · have := mul_step hc (show 2 * u - 1 ≤ s by omega)
    omega
  · have := mul_step hc (show s + 1 ≤ 2 * u + 1 by omega)
    rw [Int.mul_add] at this
    omega
theorem up_step {lo hi c p : Int} (hc : 1 ≤ c) (hl : lo ≤ hi) : up lo hi c (p - 1) ≤ up lo hi c p ∧ up lo hi c p ≤ up lo hi c (p - 1) + 1 := by
  obtain ⟨⟨a1, a2⟩, a3, a4⟩ := up_spec (p := p) hc hl
  obtain ⟨⟨b1, b2⟩, b3, b4⟩ := up_spec (p := p - 1) hc hl
  generalize up lo hi c p = u at *
  generalize up lo hi c (p - 1) = v at *
  constructor
  · apply Int.not_lt.1
    intro h
    have x1 := b3 (by omega)
    have x2 := a4 (by omega)
    have := mul_step hc (show 2 * u + 1 ≤ 2 * v - 1 by omega)
    omega
  · apply Int.not_lt.1
    intro h
    have x1 := a3 (by omega)
    have x2 := b4 (by omega)
    have := mul_step hc (show 2 * v + 1 + 1 ≤ 2 * u - 1 by omega)
    rw [Int.mul_add] at this
    omega
/-- what the last round over the steps of one price leaves is right -/
theorem up_lex {n : Nat} {lo hi c x : Int → Int} {p : Int} (hc : ∀ i : Int, 0 ≤ i → i < n → 1 ≤ c i ∧ lo i ≤ hi i)
    (hx : ∀ i : Int, 0 ≤ i → i < n → x i = up (lo i) (hi i) (c i) (p - 1) ∨ (x i = up (lo i) (hi i) (c i) (p - 1) + 1 ∧ up (lo i) (hi i) (c i) (p - 1) < up (lo i) (hi i) (c i) p))
    (ho : ∀ i j : Int, 0 ≤ i → i < n → 0 ≤ j → j < n → x i = up (lo i) (hi i) (c i) (p - 1) + 1 → x j = up (lo j) (hi j) (c j) (p - 1) → up (lo j) (hi j) (c j) (p - 1) < up (lo j) (hi j) (c j) p → i < j) : Lex n lo hi c x ∧ Rng n lo hi x := by
  refine ⟨fun i j i0 i1 j0 j1 ne hl hh => ?_, fun i i0 i1 => ?_⟩
  · obtain ⟨ci, ri⟩ := hc i i0 i1
    obtain ⟨cj, rj⟩ := hc j j0 j1
    have oo := ho i j i0 i1 j0 j1
    obtain ⟨⟨a1, a2⟩, a3, a4⟩ := up_spec (p := p) ci ri
    obtain ⟨⟨b1, b2⟩, b3, b4⟩ := up_spec (p := p - 1) ci ri
    obtain ⟨⟨d1, d2⟩, d3, d4⟩ := up_spec (p := p) cj rj
    obtain ⟨⟨e1, e2⟩, e3, e4⟩ := up_spec (p := p - 1) cj rj
    have si := up_step (p := p) ci ri
    have sj := up_step (p := p) cj rj
    have xi := hx i i0 i1
    have xj := hx j j0 j1
    generalize up (lo i) (hi i) (c i) p = u at *
    generalize up (lo i) (hi i) (c i) (p - 1) = v at *
    generalize up (lo j) (hi j) (c j) p = w at *
    generalize up (lo j) (hi j) (c j) (p - 1) = z at *
    generalize x i = s at *
    generalize x j = t at *
    have L : (s = v ∧ c i * (2 * s - 1) ≤ p - 1) ∨ (s = v + 1 ∧ c i * (2 * s - 1) = p) := by
      rcases xi with xi | ⟨xi, xk⟩
      · subst xi; exact .inl ⟨rfl, b3 hl⟩
      · refine .inr ⟨xi, ?_⟩
        have y1 := a3 (by omega)
        have y2 := b4 (by omega)
        have e1 : u = s := by omega
        have e2 : 2 * v + 1 = 2 * s - 1 := by omega
        rw [e1] at y1
        rw [e2] at y2
        omega
    have G : (t = z ∧ z < w ∧ p ≤ c j * (2 * t + 1)) ∨ p < c j * (2 * t + 1) := by
      rcases xj with xj | ⟨xj, xk⟩
      · subst xj
        have y1 := e4 hh
        by_cases k : t < w
        · exact .inl ⟨rfl, k, by omega⟩
        · have : w = t := by omega
          subst this
          exact .inr (d4 hh)
      · have : w = t := by omega
        subst this
        exact .inr (d4 hh)
    rcases L with ⟨l1, l2⟩ | ⟨l1, l2⟩ <;> rcases G with ⟨g1, g2, g3⟩ | g1
    · exact .inl (by omega)
    · exact .inl (by omega)
    · have := oo l1 g1 g2
      by_cases q : c i * (2 * s - 1) < c j * (2 * t + 1)
      · exact .inl q
      · exact .inr ⟨by omega, this⟩
    · exact .inl (by omega)
  · obtain ⟨ci, ri⟩ := hc i i0 i1
    have a := (up_spec (p := p) ci ri).1
    have b := (up_spec (p := p - 1) ci ri).1
    have := hx i i0 i1
    omega
end Sh
end Go.Proofs.Ytlhnhidoljfnnaa
